"""Kinds [2], [4], [9]."""

import unittest

from swapstride.errors import NoName, SwapError, TooBig, Twice
from swapstride.kinds import look_kinds, parts_of, size_of, sort_of

NONE = ("none", "rec", ())
POINT = ("pt", "rec", (("x", "num"), ("y", "num")))
WAY = ("way", "alt", (("on", "pt"), ("off", "none"), ("by", "num")))
BIG = ("big", "rec", (("w", "way"), ("p", "pt"), ("n", "num"), ("o", "none")))
PICK = ("pick", "alt", (("w", "way"), ("b", "big")))
KINDS = (NONE, POINT, WAY, BIG, PICK)

# Kinds named by their sizes.
FIVE = ("five", "rec", (("a", "num"), ("b", "num"), ("c", "num"), ("d", "num")))
SIX = ("six", "rec", (("a", "five"),))
TWELVE = ("twelve", "rec", (("a", "five"), ("b", "six")))
STEPS = (FIVE, SIX, TWELVE)
SIZES = {"num": 1, "five": 5, "six": 6, "twelve": 12}


def rec(name, kinds):
    return (name, "rec", tuple(zip("abcd", kinds)))


def alt(name, kinds):
    return (name, "alt", tuple(zip("abcd", kinds)))


class Looking(unittest.TestCase):
    def lets_by(self, *kinds):
        with self.subTest(kinds=kinds):
            self.assertIs(look_kinds(kinds), True)
            self.assertIs(look_kinds(kinds), True)

    def refused(self, refusal, *kinds):
        with self.subTest(kinds=kinds):
            for _ in range(2):
                with self.assertRaises(SwapError) as seen:
                    look_kinds(kinds)
                self.assertIs(type(seen.exception), refusal)

    def test_none_at_all(self):
        self.lets_by()

    def test_by_the_name_of_its_argument(self):
        self.assertIs(look_kinds(kinds=KINDS), True)

    def test_ordinary_kinds(self):
        self.lets_by(*KINDS)
        for many in range(len(KINDS)):
            self.lets_by(*KINDS[:many])

    def test_six_kinds_of_four_parts(self):
        self.lets_by(FIVE, alt("b", ["num"] * 4), alt("c", ["b"] * 4), alt("d", ["five", "b", "c", "num"]),
                     rec("e", ["five", "num", "d", "b"]), alt("f", ["e", "d", "c", "b"]))

    def test_a_name_twice_among_kinds(self):
        self.refused(Twice, NONE, NONE)
        self.refused(Twice, NONE, POINT, NONE)
        self.refused(Twice, NONE, POINT, ("none", "alt", (("a", "pt"),)))
        self.refused(Twice, POINT, WAY[:2] + ((("a", "num"),),), ("pt", "rec", ()))
        self.refused(Twice, *KINDS, PICK)

    def test_a_name_twice_among_the_parts_of_one_kind(self):
        for sort in ("rec", "alt"):
            self.refused(Twice, ("k", sort, (("a", "num"), ("a", "num"))))
            self.refused(Twice, NONE, ("k", sort, (("a", "num"), ("a", "none"))))
            self.refused(Twice, ("k", sort, (("a", "num"), ("b", "num"), ("a", "num"))))
            self.refused(Twice, ("k", sort, (("a", "num"), ("b", "num"), ("c", "num"), ("c", "num"))))
            self.refused(Twice, ("k", sort, (("a", "num"), ("b", "num"), ("c", "num"), ("a", "num"))))
            self.refused(Twice, NONE, POINT, ("k", sort, (("b", "num"), ("b", "num"))), WAY)

    def test_the_same_part_in_two_kinds(self):
        self.lets_by(rec("j", ["num", "num"]), rec("k", ["num", "j"]), alt("l", ["j", "k"]))

    def test_parts_named_like_kinds(self):
        self.lets_by(("k", "rec", (("k", "num"),)))
        self.lets_by(("k", "alt", (("k", "num"), ("j", "num"))), ("j", "rec", (("k", "k"), ("j", "num"))))
        self.lets_by(("j", "rec", ()), ("k", "rec", (("j", "j"), ("k", "j"))))

    def test_words_of_the_texts_as_names(self):
        self.lets_by(("rec", "rec", (("alt", "num"),)), ("alt", "alt", (("rec", "rec"), ("alt", "rec"))))

    def test_a_part_of_itself(self):
        self.refused(NoName, ("k", "rec", (("a", "k"),)))
        self.refused(NoName, ("k", "alt", (("a", "k"),)))
        self.refused(NoName, ("k", "alt", (("a", "num"), ("b", "k"))))
        self.refused(NoName, NONE, ("k", "rec", (("a", "none"), ("b", "num"), ("c", "num"), ("d", "k"))))

    def test_a_part_of_a_later_kind(self):
        self.refused(NoName, ("k", "rec", (("a", "none"),)), NONE)
        self.refused(NoName, ("k", "alt", (("a", "num"), ("b", "none"))), NONE)
        self.refused(NoName, rec("j", ["k"]), rec("k", ["j"]))
        self.refused(NoName, NONE, WAY, POINT)

    def test_a_part_of_no_kind(self):
        self.refused(NoName, ("k", "rec", (("a", "zz"),)))
        self.refused(NoName, ("k", "alt", (("a", "zz"),)))
        self.refused(NoName, NONE, ("k", "alt", (("a", "none"), ("b", "num"), ("c", "zz"))))
        # The name of a part, and the sort of a kind, are no kinds.
        self.refused(NoName, POINT, ("k", "rec", (("a", "x"),)))
        self.refused(NoName, ("k", "rec", (("a", "num"), ("b", "a"))))
        self.refused(NoName, ("k", "rec", (("a", "rec"),)))

    def test_a_kind_without_a_size_is_not_too_big(self):
        self.refused(NoName, *STEPS, rec("k", ["twelve", "twelve", "twelve", "zz"]))
        self.refused(NoName, *STEPS, rec("k", ["zz", "twelve", "twelve", "twelve"]))

    def test_a_rec_of_thirty_and_of_thirty_one(self):
        self.lets_by(*STEPS, rec("k", ["twelve", "twelve", "five"]))
        self.refused(TooBig, *STEPS, rec("k", ["twelve", "twelve", "six"]))
        self.refused(TooBig, *STEPS, rec("k", ["twelve", "twelve", "five", "num"]))
        self.refused(TooBig, *STEPS, rec("k", ["twelve", "twelve", "twelve", "twelve"]))

    def test_an_alt_of_thirty_and_of_thirty_one(self):
        near = rec("near", ["twelve", "five", "five", "five"])
        below = rec("below", ["near"])
        full = rec("full", ["near", "num"])
        most = alt("most", ["below"])
        kinds = STEPS + (near, below, full, most)
        self.assertEqual([size_of(kinds, k) for k in ("near", "below", "full", "most")], [28, 29, 30, 30])
        self.lets_by(*kinds)
        # Tags beside the greatest one add nothing.
        self.lets_by(*kinds, alt("k", ["below", "below", "near", "num"]))
        self.refused(TooBig, *kinds, alt("k", ["full"]))
        self.refused(TooBig, *kinds, alt("k", ["most"]))
        self.refused(TooBig, *kinds, alt("k", ["num", "num", "full", "num"]))
        self.refused(TooBig, *kinds, rec("k", ["most"]))

    def test_a_later_kind_may_be_small_again(self):
        self.lets_by(*STEPS, rec("k", ["twelve", "twelve", "five"]), rec("j", ["five"]), alt("l", ["num"]))

    def test_the_first_wrong_kind_decides(self):
        twice = ("t", "rec", (("a", "num"), ("a", "num")))
        lost = ("l", "rec", (("a", "zz"),))
        big = rec("b", ["twelve", "twelve", "six"])
        for order in [(twice, lost, big), (twice, big, lost)]:
            self.refused(Twice, *STEPS, *order)
        for order in [(lost, twice, big), (lost, big, twice)]:
            self.refused(NoName, *STEPS, *order)
        for order in [(big, twice, lost), (big, lost, twice)]:
            self.refused(TooBig, *STEPS, *order)
        self.refused(NoName, lost, NONE, NONE)
        self.refused(Twice, NONE, NONE, lost)
        self.refused(TooBig, *STEPS, big, FIVE)

    def test_a_kind_that_rests_on_a_refused_one_does_not_come_to_be_looked_at(self):
        self.refused(NoName, ("l", "rec", (("a", "zz"),)), ("k", "rec", (("a", "l"), ("a", "l"))))
        self.refused(TooBig, *STEPS, rec("b", ["twelve", "twelve", "six"]), rec("k", ["b", "zz"]))


class Sizes(unittest.TestCase):
    def test_num(self):
        self.assertEqual(size_of((), "num"), 1)
        self.assertEqual(size_of(KINDS, "num"), 1)
        self.assertIs(type(size_of(KINDS, "num")), int)

    def test_recs(self):
        self.assertEqual(size_of(KINDS, "none"), 1)
        self.assertEqual(size_of(KINDS, "pt"), 3)
        self.assertEqual(size_of(KINDS, "big"), 10)
        for name, size in SIZES.items():
            self.assertEqual(size_of(STEPS, name), size)

    def test_alts(self):
        self.assertEqual(size_of(KINDS, "way"), 4)
        self.assertEqual(size_of(KINDS, "pick"), 11)
        self.assertEqual(size_of((alt("k", ["num"]),), "k"), 2)
        self.assertEqual(size_of((alt("k", ["num"] * 4),), "k"), 2)
        # The greatest one counts, wherever it stands.
        for order in [["none", "pt", "num"], ["pt", "num", "none"], ["num", "none", "pt"]]:
            self.assertEqual(size_of(KINDS + (alt("k", order),), "k"), 4)

    def test_by_the_names_of_its_arguments(self):
        self.assertEqual(size_of(kinds=KINDS, kind="pt"), 3)

    def test_kinds_that_share_their_parts_in_many_layers(self):
        kinds = [alt("a", ["num"] * 4)]
        for name in "bcdefghijklmnopqrstuvwxyz":
            kinds.append(alt(name, [kinds[-1][0]] * 4))
        self.assertEqual(size_of(tuple(kinds), "z"), 27)
        self.assertIs(look_kinds(tuple(kinds)), True)

    def test_above_thirty(self):
        kinds = STEPS + (rec("k", ["twelve", "twelve", "six"]),)
        self.assertEqual(size_of(kinds, "k"), 31)


class SortsAndParts(unittest.TestCase):
    def test_each_kind(self):
        for name, sort, parts in KINDS:
            with self.subTest(name=name):
                self.assertEqual(sort_of(KINDS, name), sort)
                self.assertEqual(parts_of(KINDS, name), parts)
                self.assertIs(type(parts_of(KINDS, name)), tuple)
                self.assertEqual(sort_of(kinds=KINDS, K=name), sort)
                self.assertEqual(parts_of(kinds=KINDS, K=name), parts)

    def test_what_is_no_kinds_name(self):
        for name in ["num", "it", "x", "on", "off", "w", "zz", "rec", "alt", "p", "pts", ""]:
            with self.subTest(name=name):
                self.assertIs(sort_of(KINDS, name), None)
                self.assertEqual(parts_of(KINDS, name), ())

    def test_without_kinds(self):
        for name in ["num", "pt", "rec"]:
            with self.subTest(name=name):
                self.assertIs(sort_of((), name), None)
                self.assertEqual(parts_of((), name), ())

    def test_kinds_named_like_sorts_and_parts(self):
        kinds = (("alt", "rec", (("rec", "num"),)), ("rec", "alt", (("alt", "alt"), ("rec", "num"))))
        self.assertEqual(sort_of(kinds, "alt"), "rec")
        self.assertEqual(sort_of(kinds, "rec"), "alt")
        self.assertEqual(parts_of(kinds, "alt"), (("rec", "num"),))
        self.assertEqual(parts_of(kinds, "rec"), (("alt", "alt"), ("rec", "num")))
