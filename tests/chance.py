"""Makes of chance that are let by, over the kinds of test_kinds, and a second telling of what hands do."""

from swapstride.values import nought
from swapstride.worth import worth
from tests.test_kinds import KINDS
from tests.test_terms import random_of

ANY_KIND = ["num", "num"] + [kind[0] for kind in KINDS]
HANDS = ["ha", "hb", "hc", "hd"]


def right_make(source):
    """A make of one to four hands that is let by."""
    hands = HANDS[:source.randint(1, 4)]
    channels = [(c, source.choice(hands), source.choice(hands), source.choice(ANY_KIND))
                for c in "abcdef"[:source.randint(0, 6)]]
    return (KINDS, tuple(channels), tuple(right_hand(source, h, channels) for h in hands))


def right_hand(source, h, channels):
    """A hand with a box for each kind that may come to it, and rows of any form."""
    kinds = ["num"] + [source.choice(ANY_KIND) for _ in range(source.randint(0, 2))]
    kinds = (kinds + [kind for _, _, to, kind in channels if to == h])[:5]
    boxes = dict(zip(["n", "i", "j", "k", "l"], kinds))
    many = source.randint(2, 14)
    marks = iter("abcdefghijklmnopqrstuvwxyz")
    rows = [right_row(source, h, channels, boxes, many, marks) for _ in range(many - 1)]
    rows.append(source.choice([("end",), ("go", source.randrange(many)), ("go", 0), ("go", 0)]))
    return (h, tuple(boxes.items()), tuple(rows))


def right_row(source, h, channels, boxes, many, marks):
    """A row of a hand of so many rows, other than its last one."""
    form = source.choice(["set", "set", "send", "send", "take", "take", "tell", "go", "if", "end"])
    if form == "send":
        own = [(c, kind) for c, sender, _, kind in channels if sender == h]
        if own:
            c, kind = source.choice(own)
            return ("send", c, random_of(source, kind, boxes, 3))
    if form == "take":
        own = [(c, x) for c, _, to, kind in channels if to == h for x in boxes if boxes[x] == kind]
        if own:
            c, x = source.choice(own)
            return ("take", next(marks), c, x)
    if form == "tell":
        return ("tell", random_of(source, "num", boxes, 3))
    # An end or a go seldom stands amid, or most hands would do but little.
    if form in ("go", "end") and source.randrange(3) == 0:
        return ("end",) if form == "end" else ("go", source.randrange(many))
    if form == "if":
        return ("if", random_of(source, "num", boxes, 3), source.randrange(many))
    x = source.choice(list(boxes))
    return ("set", x, random_of(source, boxes[x], boxes, 3))


class Model:
    """A house of one make, told once more, with all that went through its channels."""

    def __init__(self, make):
        self.kinds = make[0]
        self.rows = {name: rows for name, _, rows in make[2]}
        self.row = {name: 0 for name, _, _ in make[2]}
        self.boxes = {name: {x: nought(make[0], kind) for x, kind in boxes} for name, boxes, _ in make[2]}
        self.told = {name: [] for name, _, _ in make[2]}
        self.count = {name: 0 for name, _, _ in make[2]}
        self.sent = {channel[0]: [] for channel in make[1]}
        self.taken = {channel[0]: 0 for channel in make[1]}

    def letters(self, c):
        return self.sent[c][self.taken[c]:]

    def step(self, h):
        row = self.rows[h][self.row[h]]
        boxes = self.boxes[h]
        onward = self.row[h] + 1
        if row[0] == "end":
            return False
        if row[0] == "take":
            if not self.letters(row[2]):
                return False
            boxes[row[3]] = self.letters(row[2])[0]
            self.taken[row[2]] += 1
        if row[0] == "set":
            boxes[row[1]] = worth(self.kinds, row[2], boxes)
        if row[0] == "send":
            self.sent[row[1]].append(worth(self.kinds, row[2], boxes))
        if row[0] == "tell":
            self.told[h].append(worth(self.kinds, row[1], boxes))
        if row[0] == "go":
            onward = row[1]
        if row[0] == "if" and worth(self.kinds, row[1], boxes) != 0:
            onward = row[2]
        self.row[h] = onward
        self.count[h] += 1
        return True
