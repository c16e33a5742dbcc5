"""Makes read from their texts."""

from swapstride.bricks import name_from, need, term_of
from swapstride.errors import BadText
from swapstride.words import is_kind, is_number

MOST_PARTS = 4


class Draft:
    """What was read so far: kinds, channels, and hands whose boxes and rows are still lists."""

    def __init__(self):
        self.kinds = []
        self.channels = []
        self.hands = []


def read(text):
    """The make that a text writes, or BadText at the first row by which it writes none."""
    draft = Draft()
    for at, row in enumerate(rows_in(text)):
        # A row by itself is refused as row 0; only here its place among all is known.
        try:
            put_row(draft, row.split(" "))
        except BadText:
            raise BadText(at) from None
    return made(draft)


def rows_in(text):
    """The rows of a text, none where it has no signs."""
    if text == "":
        return []
    return text.split("\n")


def made(draft):
    """The make of what was read."""
    hands = [(name, tuple(boxes), tuple(rows)) for name, boxes, rows in draft.hands]
    return (tuple(draft.kinds), tuple(draft.channels), tuple(hands))


def put_row(draft, words):
    """Put a row, by its words, behind those read so far, where it may stand there."""
    head = words[0]
    if head in ("rec", "alt"):
        need(draft.channels == [] and draft.hands == [])
        draft.kinds.append(kind_row(words))
    elif head == "channel":
        need(draft.hands == [])
        draft.channels.append(channel_row(words))
    elif head == "hand":
        need(len(words) == 2)
        draft.hands.append((name_from(words[1]), [], []))
    else:
        need(draft.hands != [])
        put_in_hand(draft.hands[-1], words)


def put_in_hand(hand, words):
    """Put a box or a row into the hand that is being read."""
    boxes = hand[1]
    rows = hand[2]
    if words[0] == "box":
        need(rows == [] and len(words) == 3)
        boxes.append((name_from(words[1]), kind_from(words[2])))
    else:
        rows.append(hand_row(words))


def kind_row(words):
    """The kind that a row's words write."""
    fewest = 1 if words[0] == "alt" else 0
    need(len(words) % 2 == 0 and 2 + 2 * fewest <= len(words) <= 2 + 2 * MOST_PARTS)
    parts = [(name_from(words[k]), kind_from(words[k + 1])) for k in range(2, len(words), 2)]
    return (name_from(words[1]), words[0], tuple(parts))


def channel_row(words):
    """The channel that a row's words write."""
    need(len(words) == 5)
    return (name_from(words[1]), name_from(words[2]), name_from(words[3]), kind_from(words[4]))


def hand_row(words):
    """The row of a hand that a row's words write."""
    head = words[0]
    if head in ("set", "send"):
        need(len(words) >= 3)
        return (head, name_from(words[1]), term_in(words[2:]))
    if head == "take":
        need(len(words) == 4)
        return (head, name_from(words[1]), name_from(words[2]), name_from(words[3]))
    if head == "tell":
        return (head, term_in(words[1:]))
    if head == "go":
        need(len(words) == 2)
        return (head, number_from(words[1]))
    if head == "if":
        return (head, term_in(words[1:-1]), number_from(words[-1]))
    need(words == ["end"])
    return ("end",)


def term_in(words):
    """The term that words write together."""
    return term_of(" ".join(words))


def number_from(word):
    """The number that a word is."""
    need(is_number(word))
    return int(word)


def kind_from(word):
    """The kind that a word stands for."""
    need(is_kind(word))
    return word
