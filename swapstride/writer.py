"""Makes written as their texts."""

from swapstride.bricks import term_text


def shown(make):
    """The one text of a make."""
    rows = [kind_text(kind) for kind in make[0]] + [channel_text(channel) for channel in make[1]]
    for hand in make[2]:
        rows.extend(hand_texts(hand))
    return "\n".join(rows)


def kind_text(kind):
    """The row of a kind."""
    words = [kind[1], kind[0]]
    for part in kind[2]:
        words.extend(part)
    return " ".join(words)


def channel_text(channel):
    """The row of a channel."""
    return " ".join(["channel"] + list(channel))


def hand_texts(hand):
    """The rows of a hand: its name's, its boxes', its own."""
    boxes = [" ".join(["box", name, kind]) for name, kind in hand[1]]
    return [" ".join(["hand", hand[0]])] + boxes + [row_text(row) for row in hand[2]]


def row_text(row):
    """The row of a hand's row."""
    return " ".join([word_text(word) for word in row])


def word_text(word):
    """The text of what stands in a hand's row: a word, a number or a term."""
    # Terms are the only tuples that a row has in it.
    if isinstance(word, tuple):
        return term_text(word)
    return str(word)
