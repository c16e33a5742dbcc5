"""Makes and overs of chance that are let by, over the kinds of test_kinds, and a second telling of what hands do."""

from swapstride.values import nought
from swapstride.ways import made_ways
from swapstride.worth import worth
from tests.test_kinds import KINDS
from tests.test_terms import random_of

HANDS = ["ha", "hb", "hc", "hd"]
FORMS = ["set", "set", "send", "send", "take", "take", "tell", "go", "if", "end"]
# Of hands that are to be changed over, which is done at takes: they begin with sends, so that others needn't wait.
BUSY = ["set", "send", "send", "send", "take", "take", "take", "tell", "if"]
LEAD = ["send", "send", "send"]

# Kinds for a second make: one as it was, some with other parts, one of the other sort, one gone and one new.
OTHERS = (("none", "rec", ()),
          ("pt", "rec", (("y", "num"), ("z", "num"), ("x", "num"))),
          ("way", "alt", (("more", "num"), ("by", "num"), ("off", "none"), ("on", "pt"))),
          ("big", "alt", (("w", "way"), ("n", "num"))),
          ("new", "rec", (("w", "way"), ("o", "none"))))


def any_kind(kinds):
    return ["num", "num"] + [kind[0] for kind in kinds]


def right_make(source):
    """A make of one to four hands that is let by."""
    hands = HANDS[:source.randint(1, 4)]
    channels = right_channels(source, hands, source.randint(0, 6), any_kind(KINDS))
    return (KINDS, channels, tuple(right_hand(source, h, channels) for h in hands))


def right_channels(source, hands, many, names):
    """So many channels between hands, of kinds of those names."""
    return tuple((c, source.choice(hands), source.choice(hands), source.choice(names)) for c in "abcdef"[:many])


def right_hand(source, h, channels, kinds=KINDS, forms=FORMS, lead=()):
    """A hand with a box for each kind that may come to it, and rows of any form."""
    names = ["num"] + [source.choice(any_kind(kinds)) for _ in range(source.randint(0, 2))]
    names = (names + [kind for _, _, to, kind in channels if to == h])[:5]
    boxes = dict(zip(["n", "i", "j", "k", "l"], names))
    many = source.randint(2, 14) + len(lead)
    marks = iter("abcdefghijklmnopqrstuvwxyz")
    wanted = [*lead, *[source.choice(forms) for _ in range(many)]][:many - 1]
    rows = [right_row(source, h, channels, boxes, many, marks, kinds, form) for form in wanted]
    rows.append(source.choice([("end",), ("go", source.randrange(many)), ("go", 0), ("go", 0)]))
    return (h, tuple(boxes.items()), tuple(rows))


def right_row(source, h, channels, boxes, many, marks, kinds, form):
    """A row of a hand of so many rows, other than its last one; of another form where the one told can't be."""
    if form == "send":
        own = [(c, kind) for c, sender, _, kind in channels if sender == h]
        if own:
            c, kind = source.choice(own)
            return ("send", c, random_of(source, kind, boxes, 3, kinds))
    if form == "take":
        own = [(c, x) for c, _, to, kind in channels if to == h for x in boxes if boxes[x] == kind]
        if own:
            c, x = source.choice(own)
            return ("take", next(marks), c, x)
    if form == "tell":
        return ("tell", random_of(source, "num", boxes, 3, kinds))
    # An end or a go seldom stands amid, or most hands would do but little.
    if form in ("go", "end") and source.randrange(3) == 0:
        return ("end",) if form == "end" else ("go", source.randrange(many))
    if form == "if":
        return ("if", random_of(source, "num", boxes, 3, kinds), source.randrange(many))
    x = source.choice(list(boxes))
    return ("set", x, random_of(source, boxes[x], boxes, 3, kinds))


def over_boxes(ways, boxes):
    """The boxes, or parts, that go over, with the kinds to which they go."""
    over = {"num": "num", **{K: way[0] for K, way in ways.items()}}
    return {x: over[kind] for x, kind in boxes if kind in over}


def right_ways(source, kinds):
    """Told ways that are right from KINDS to other kinds, for some kinds."""
    told = {}
    for K, sort, parts in KINDS:
        if source.randrange(3) == 0:
            ways = made_ways((KINDS, (), ()), (kinds, (), ()), told)[0]
            K2 = source.choice(any_kind(kinds))
            if sort == "rec":
                how = random_of(source, K2, over_boxes(ways, parts), 3, kinds)
            else:
                how = tuple((t, random_of(source, K2, over_boxes(ways, [("it", inner)]), 3, kinds))
                            for t, inner in parts)
            told[K] = (K2, how)
    return told


def right_places(source, first, second, ways):
    """Told ways of some places that are right."""
    told = {}
    for one, other in zip(first[2], second[2]):
        marks = [row[1] for row in other[2] if row[0] == "take"]
        for row in one[2]:
            if row[0] == "take" and marks and source.randrange(2):
                boxes = over_boxes(ways, one[1])
                sets = tuple((x, random_of(source, kind, boxes, 3, second[0])) for x, kind in other[1])
                told[(one[0], row[1])] = (source.choice(marks), sets)
    return told


def right_over(source):
    """The makes and told ways of an over that is let by."""
    kinds = source.choice([KINDS, OTHERS])
    told = right_ways(source, kinds)
    ways = made_ways((KINDS, (), ()), (kinds, (), ()), told)[0]
    hands = HANDS[:source.randint(1, 3)]
    channels = right_channels(source, hands, source.randint(3, 6), ["num", "num"] + sorted(ways))
    news = tuple(channel[:3] + (over_boxes(ways, [channel[2:]])[channel[2]],) for channel in channels)
    first = (KINDS, channels, tuple(right_hand(source, h, channels, KINDS, BUSY, LEAD) for h in hands))
    second = (kinds, news, tuple(right_hand(source, h, news, kinds, BUSY, LEAD) for h in hands))
    return first, second, told, right_places(source, first, second, ways)


class Model:
    """A house of one make, told once more, with all that went through its channels."""

    def __init__(self, make):
        self.kinds = make[0]
        self.rows = {name: rows for name, _, rows in make[2]}
        self.row = {name: 0 for name, _, _ in make[2]}
        self.boxes = {name: {x: nought(make[0], kind) for x, kind in boxes} for name, boxes, _ in make[2]}
        self.told = {name: [] for name, _, _ in make[2]}
        self.count = {name: 0 for name, _, _ in make[2]}
        self.sent = {channel[0]: [] for channel in make[1]}
        self.taken = {channel[0]: 0 for channel in make[1]}

    def letters(self, c):
        return self.sent[c][self.taken[c]:]

    def step(self, h):
        row = self.rows[h][self.row[h]]
        boxes = self.boxes[h]
        onward = self.row[h] + 1
        if row[0] == "end":
            return False
        if row[0] == "take":
            if not self.letters(row[2]):
                return False
            boxes[row[3]] = self.letters(row[2])[0]
            self.taken[row[2]] += 1
        if row[0] == "set":
            boxes[row[1]] = worth(self.kinds, row[2], boxes)
        if row[0] == "send":
            self.sent[row[1]].append(worth(self.kinds, row[2], boxes))
        if row[0] == "tell":
            self.told[h].append(worth(self.kinds, row[1], boxes))
        if row[0] == "go":
            onward = row[1]
        if row[0] == "if" and worth(self.kinds, row[1], boxes) != 0:
            onward = row[2]
        self.row[h] = onward
        self.count[h] += 1
        return True


class MixedModel:
    """A house of an over, told once more: going back, it plays again all that was done but what is taken back."""

    def __init__(self, over):
        self.over = over
        self.begin()

    def begin(self):
        first = self.over.first
        names = [name for name, _, _ in first[2]]
        self.done = []
        self.side = {h: 1 for h in names}
        self.row = {h: 0 for h in names}
        self.boxes = {name: {x: nought(first[0], kind) for x, kind in boxes} for name, boxes, _ in first[2]}
        self.told = {h: [] for h in names}
        self.letters = {channel[0]: [] for channel in first[1]}
        # For each hand what it took, and what it sent, as (side, channel, value).
        self.took = {h: [] for h in names}
        self.sent = {h: [] for h in names}

    def count(self, h, side=None):
        """How many rows a hand did, or those of one side."""
        return len([each for each in self.done if each[:2] == ("step", h) and side in (None, each[2])])

    def deed(self, word, h):
        if word == "back":
            return self.back(h)
        side = self.side[h]
        silent = len(self.told[h]) + len(self.sent[h])
        if not (self.step(h) if word == "step" else self.change(h)):
            return False
        self.done.append((word, h, side, len(self.told[h]) + len(self.sent[h]) > silent))
        return True

    def step(self, h):
        side = self.side[h]
        kinds, channels, hands = (self.over.first, self.over.second)[side - 1]
        row = [rows for name, _, rows in hands if name == h][0][self.row[h]]
        boxes = self.boxes[h]
        onward = self.row[h] + 1
        if row[0] == "end":
            return False
        if row[0] == "take":
            if not self.letters[row[2]] or self.letters[row[2]][0][0] > side:
                return False
            make, value = self.letters[row[2]].pop(0)
            if make < side:
                value = self.turned([kind for c, _, _, kind in self.over.first[1] if c == row[2]][0], value)
            boxes[row[3]] = value
            self.took[h].append((side, row[2], value))
        if row[0] == "set":
            boxes[row[1]] = worth(kinds, row[2], boxes)
        if row[0] == "send":
            self.sent[h].append((side, row[1], worth(kinds, row[2], boxes)))
            self.letters[row[1]].append((side, worth(kinds, row[2], boxes)))
        if row[0] == "tell":
            self.told[h].append(worth(kinds, row[1], boxes))
        if row[0] == "go":
            onward = row[1]
        if row[0] == "if" and worth(kinds, row[1], boxes) != 0:
            onward = row[2]
        self.row[h] = onward
        return True

    def turned(self, kind, value):
        if kind == "num":
            return value
        how = self.over.ways[kind][1]
        sort, parts = [each[1:] for each in self.over.first[0] if each[0] == kind][0]
        values = dict(zip([f for f, _ in parts], value[1]))
        if sort == "alt":
            how = [term for t, term in how if t == value[1]][0]
            parts = [("it", inner) for t, inner in parts if t == value[1]]
            values = {"it": value[2]}
        over = over_boxes(self.over.ways, parts)
        boxes = {x: self.turned(inner, values[x]) for x, inner in parts if x in over}
        return worth(self.over.second[0], how, boxes)

    def change(self, h):
        if self.side[h] == 2:
            return False
        boxes, rows = [hand[1:] for hand in self.over.first[2] if hand[0] == h][0]
        row = rows[self.row[h]]
        if row[0] != "take" or (h, row[1]) not in self.over.places:
            return False
        mark, sets = self.over.places[(h, row[1])]
        over = over_boxes(self.over.ways, boxes)
        values = {x: self.turned(kind, self.boxes[h][x]) for x, kind in boxes if x in over}
        self.boxes[h] = {x: worth(self.over.second[0], term, values) for x, term in sets}
        news = [rows for name, _, rows in self.over.second[2] if name == h][0]
        self.row[h] = [k for k, each in enumerate(news) if each[:2] == ("take", mark)][0]
        self.side[h] = 2
        return True

    def back(self, h):
        if self.side[h] == 1:
            return False
        at = max(k for k, each in enumerate(self.done) if each[:2] == ("over", h))
        if any(each[1] == h and each[3] for each in self.done[at:]):
            return False
        left = self.done[:at] + [each for each in self.done[at:] if each[1] != h]
        self.begin()
        for word, other, _, _ in left:
            if not self.deed(word, other):
                raise ValueError("what is left can't be played again")
        return True
