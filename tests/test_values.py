"""Values of kinds [2], [10]."""

import unittest

from swapstride.values import field, is_of, nought
from swapstride.words import WIDE
from tests.test_kinds import KINDS

NONE = ("none", ())
POINT = ("pt", (3, 4))
WAYS = [("way", "on", POINT), ("way", "off", NONE), ("way", "by", 7)]
BIGS = [("big", (way, POINT, 9, NONE)) for way in WAYS]
PICKS = [("pick", "w", way) for way in WAYS] + [("pick", "b", big) for big in BIGS]
NUMBERS = [0, 1, 2, WIDE - 2, WIDE - 1]

# Values of each kind.
RIGHT = {"num": NUMBERS, "none": [NONE], "pt": [POINT, ("pt", (0, WIDE - 1))], "way": WAYS, "big": BIGS, "pick": PICKS}

# Of no kind at all.
WRONG = [
    -1, -WIDE, WIDE, WIDE + 1, WIDE * WIDE, True, False, "", "0", "num", "none", "pt", "way", "on",
    (), (0,), (True,), ("",), ("pt",), ("none",), ("num",), ("num", 0), ("num", (0,)), ((), ()), (0, 0), (0, 0, 0),
    ("none", 0), ("none", ""), ("none", (0,)), ("none", ((),)), ("none", (), ()), ("none", "", ()), ((), "none"),
    ("rec", ()), ("rec", "none", ()), ("zz", ()), ("zz", (3, 4)),
    # A part less, a part more, parts of other kinds.
    ("pt", ()), ("pt", (3,)), ("pt", (3, 4, 5)), ("pt", 3, 4), ("pt", 3), ("pt", "34"), ("pt", (3, "4")),
    ("pt", ("x", "y")), ("pt", (3, True)), ("pt", (False, 4)), ("pt", (-1, 4)), ("pt", (3, WIDE)), ("pt", (3, (4,))),
    ("pt", ((3, 4),)), ("pt", (NONE, 4)), ("pt", (3, NONE)), ("pt", POINT), ("pt", (POINT, POINT)), ((3, 4), "pt"),
    (("pt",), (3, 4)), ("pt", (3, 4), ()), ("pt", "x", 3), (3, 4), ("x", (3, 4)), ("pt", (("x", 3), ("y", 4))),
    # Alts.
    ("way",), ("way", "on"), ("way", POINT), ("way", "on", POINT, 0), ("way", ("on", POINT)), ("way", (POINT,)),
    ("way", "on", NONE), ("way", "on", 7), ("way", "off", POINT), ("way", "off", 7), ("way", "by", NONE),
    ("way", "by", True), ("way", "by", -1), ("way", "by", WIDE), ("way", "by", "7"), ("way", "no", POINT),
    ("way", "pt", POINT), ("way", "", 7), ("way", 0, 7), ("way", True, 7), ("way", ("by",), 7), ("way", "on", (3, 4)),
    ("way", "on", ("pt", (3,))), ("way", "on", ("pt", (3, True))), ("way", "x", 3), ("on", "way", POINT),
    ("alt", "on", POINT), ("by", 7), ("zz", "by", 7),
    # Deep within.
    ("big", (WAYS[0], POINT, 9)), ("big", (WAYS[0], POINT, 9, NONE, NONE)), ("big", (POINT, WAYS[0], 9, NONE)),
    ("big", (("way", "on", ("pt", (3, WIDE))), POINT, 9, NONE)), ("big", (WAYS[0], ("pt", (3, False)), 9, NONE)),
    ("big", (("way", "no", POINT), POINT, 9, NONE)), ("big", (WAYS[0], POINT, 9, ("none", (0,)))),
    ("big", (WAYS[0], POINT, -1, NONE)), ("pick", "w", BIGS[0]), ("pick", "b", WAYS[0]), ("pick", "c", WAYS[0]),
    ("pick", "w", ("way", "by", WIDE)), ("pick", "b", ("big", (("way", "by", True), POINT, 9, NONE))),
    ("pick", "b", ("big", (("way", "off", ("none", (1,))), POINT, 9, NONE))), ("pick", "w", ("way", "on")),
]


class IsOf(unittest.TestCase):
    def agree(self, answer, kind, value):
        with self.subTest(kind=kind, value=value):
            self.assertIs(is_of(KINDS, kind, value), answer)
            self.assertIs(is_of(KINDS, kind, value), answer)

    def test_values_of_each_kind(self):
        for kind, values in RIGHT.items():
            for value in values:
                self.agree(True, kind, value)

    def test_values_of_other_kinds(self):
        for kind in RIGHT:
            for other, values in RIGHT.items():
                for value in values:
                    self.agree(kind == other, kind, value)

    def test_what_is_of_none(self):
        for kind in RIGHT:
            for value in WRONG:
                self.agree(False, kind, value)

    def test_numbers_and_truths(self):
        for value, answer in [(-1, False), (0, True), (WIDE - 1, True), (WIDE, False), (True, False), (False, False)]:
            self.agree(answer, "num", value)
            self.agree(answer, "pt", ("pt", (value, 0)))
            self.agree(answer, "pt", ("pt", (0, value)))
            self.agree(answer, "way", ("way", "by", value))
            self.agree(answer, "way", ("way", "on", ("pt", (1, value))))
            self.agree(answer, "pick", ("pick", "b", ("big", (("way", "by", value), POINT, 1, NONE))))

    def test_without_kinds(self):
        self.assertIs(is_of((), "num", 5), True)
        self.assertIs(is_of((), "num", True), False)

    def test_two_kinds_of_the_same_parts(self):
        kinds = (("a", "rec", (("x", "num"),)), ("b", "rec", (("x", "num"),)), ("c", "alt", (("x", "num"),)),
                 ("d", "alt", (("x", "num"),)))
        for name in "ab":
            for other in "ab":
                self.assertIs(is_of(kinds, name, (other, (1,))), name == other)
            self.assertIs(is_of(kinds, name, (name, "x", 1)), False)
        for name in "cd":
            for other in "cd":
                self.assertIs(is_of(kinds, name, (other, "x", 1)), name == other)
            self.assertIs(is_of(kinds, name, (name, (1,))), False)

    def test_tags_named_like_kinds_and_other_tags_kinds(self):
        kinds = (("a", "rec", ()), ("b", "alt", (("a", "num"), ("b", "a"))))
        self.assertIs(is_of(kinds, "b", ("b", "a", 1)), True)
        self.assertIs(is_of(kinds, "b", ("b", "b", ("a", ()))), True)
        self.assertIs(is_of(kinds, "b", ("b", "a", ("a", ()))), False)
        self.assertIs(is_of(kinds, "b", ("b", "b", 1)), False)

    def test_very_deep_things_are_no_values(self):
        deep = ()
        for _ in range(5000):
            deep = (deep,)
        for value in [deep, (deep, deep), ("pt", deep), ("pt", (deep, 1)), (deep, "on", 1), ("way", deep, 1)]:
            for kind in RIGHT:
                self.assertIs(is_of(KINDS, kind, value), False)

    def test_by_the_names_of_its_arguments(self):
        self.assertIs(is_of(kinds=KINDS, kind="pt", value=POINT), True)


class Nought(unittest.TestCase):
    def test_each_kind(self):
        point = ("pt", (0, 0))
        way = ("way", "on", point)
        told = {"num": 0, "none": ("none", ()), "pt": point, "way": way, "big": ("big", (way, point, 0, NONE)),
                "pick": ("pick", "w", way)}
        for kind, value in told.items():
            with self.subTest(kind=kind):
                self.assertEqual(nought(KINDS, kind), value)
                self.assertEqual(nought(kinds=KINDS, kind=kind), value)
                self.assertIs(is_of(KINDS, kind, nought(KINDS, kind)), True)

    def test_num_without_kinds(self):
        self.assertEqual(nought((), "num"), 0)
        self.assertIs(type(nought((), "num")), int)

    def test_alts_by_their_first_tag(self):
        kinds = KINDS + (("a", "alt", (("z", "num"), ("b", "pt"))), ("b", "alt", (("z", "pick"), ("a", "num"))),
                         ("c", "alt", (("y", "big"), ("a", "num"))))
        self.assertEqual(nought(kinds, "a"), ("a", "z", 0))
        self.assertEqual(nought(kinds, "b"), ("b", "z", ("pick", "w", ("way", "on", ("pt", (0, 0))))))
        self.assertEqual(nought(kinds, "c"), ("c", "y", nought(kinds, "big")))


class Field(unittest.TestCase):
    def test_each_field(self):
        self.assertEqual(field(KINDS, POINT, "x"), 3)
        self.assertEqual(field(KINDS, POINT, "y"), 4)
        for big, way in zip(BIGS, WAYS):
            self.assertEqual(field(KINDS, big, "w"), way)
            self.assertEqual(field(KINDS, big, "p"), POINT)
            self.assertEqual(field(KINDS, big, "n"), 9)
            self.assertEqual(field(KINDS, big, "o"), NONE)

    def test_fields_of_one_name_in_two_kinds(self):
        kinds = (("j", "rec", (("a", "num"), ("b", "num"))), ("k", "rec", (("b", "num"), ("k", "num"), ("a", "j"))))
        inner = ("j", (1, 2))
        value = ("k", (5, 6, inner))
        self.assertEqual([field(kinds, inner, f) for f in "ab"], [1, 2])
        self.assertEqual([field(kinds, value, f) for f in "abk"], [inner, 5, 6])

    def test_by_the_names_of_its_arguments(self):
        self.assertEqual(field(kinds=KINDS, value=POINT, f="y"), 4)
