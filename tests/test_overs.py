"""Overs: two makes that fit, stands brought over and letters turned [2], [3], [10], [16] to [23]."""

import copy
import itertools
import random
import unittest

from swapstride.bricks import term_of
from swapstride.errors import Lacks, NoCount, NoFit, NoName, SwapError, Twice, WrongKind
from swapstride.looker import look
from swapstride.makes import hand_of, mark_row
from swapstride.overs import Over, brought, letter_over
from swapstride.places import made_places
from swapstride.plain import Plain
from swapstride.reader import read
from swapstride.strides import begin_of
from swapstride.turning import turned
from swapstride.values import is_of
from swapstride.ways import made_ways
from swapstride.worth import worth
from tests.chance import MixedModel, right_over
from tests.test_kinds import KINDS
from tests.test_places import FIRST, RIGHT, SECOND, WAYS, sets
from tests.test_plain import PAIR, SELF, stirred
from tests.test_terms import random_made

EMPTY = ((), (), ())
PLACES = {("two", "l"): RIGHT, ("two", "m"): ("i", sets(s="(rec spot f n 1)", u="(get p z)", o="(tag only one f)"))}


def fields_of(over):
    return (over.first, over.second, over.ways, over.places, over.lacking)


class Overs(unittest.TestCase):
    def fits(self, first, second, ways=None, places=None):
        ways = {} if ways is None else ways
        places = {} if places is None else places
        before = copy.deepcopy((ways, places))
        over = Over(first, second, ways, places)
        self.assertEqual((list(ways.items()), list(places.items())), tuple(list(each.items()) for each in before))
        return over

    def refused(self, refusal, first, second, ways=None, places=None):
        ways = {} if ways is None else ways
        places = {} if places is None else places
        with self.subTest(first=first, second=second, ways=ways, places=places):
            before = copy.deepcopy((ways, places))
            for _ in range(2):
                with self.assertRaises(SwapError) as seen:
                    Over(first, second, ways, places)
                self.assertIs(type(seen.exception), refusal)
            self.assertEqual((list(ways.items()), list(places.items())), tuple(list(each.items()) for each in before))


class Fields(Overs):
    def test_all_told_and_by_rules(self):
        over = self.fits(FIRST, SECOND, WAYS, PLACES)
        self.assertEqual((over.first, over.second), (FIRST, SECOND))
        self.assertEqual(over.ways, WAYS)
        self.assertEqual(over.places, {**PLACES, ("one", "k"): ("k", (("n", ("box", "n")),))})
        self.assertEqual(over.lacking, (["old"], [("one", "j")]))
        self.assertEqual([type(each) for each in fields_of(over)], [tuple, tuple, dict, dict, tuple])
        self.assertEqual([type(each) for each in over.lacking], [list, list])

    def test_by_the_names_of_its_arguments(self):
        over = Over(first=FIRST, second=SECOND, told_ways=WAYS, told_places=PLACES)
        self.assertEqual(fields_of(over), fields_of(Over(FIRST, SECOND, WAYS, PLACES)))

    def test_what_functions_by_rules_tell(self):
        source = random.Random(101)
        for _ in range(60):
            first, second, told, places = right_over(source)
            over = self.fits(first, second, told, places)
            ways, kinds = made_ways(first, second, told)
            self.assertEqual((over.ways, over.lacking[0]), (ways, kinds))
            self.assertEqual((over.places, over.lacking[1]), made_places(first, second, ways, places))

    def test_nothing_told(self):
        over = self.fits(EMPTY, EMPTY)
        self.assertEqual(fields_of(over), (EMPTY, EMPTY, {}, {}, ([], [])))

    def test_from_a_make_to_itself(self):
        for make in [PAIR, SELF, FIRST, SECOND]:
            over = self.fits(make, make)
            self.assertEqual((over.first, over.second, over.lacking), (make, make, ([], [])))
            self.assertEqual(over.ways, made_ways(make, make, {})[0])
            self.assertEqual(sorted(over.places), sorted((h, row[1]) for h, _, rows in make[2] for row in rows
                                                         if row[0] == "take"))
            for (h, l), way in over.places.items():
                self.assertEqual(way, (l, tuple((x, ("box", x)) for x, _ in hand_of(make, h)[1])))

    def test_places_by_rules_rest_on_told_ways(self):
        first = read("rec p n num\nchannel c h h num\nhand h\nbox n num\nbox q p\ntake a c n\nend")
        second = read("rec r n num\nchannel c h h num\nhand h\nbox q r\nbox n num\ntake a c n\nend")
        self.assertEqual(self.fits(first, second).lacking, (["p"], [("h", "a")]))
        over = self.fits(first, second, {"p": ("r", term_of("(rec r n)"))})
        self.assertEqual(over.lacking, ([], []))
        self.assertEqual(over.places, {("h", "a"): ("a", (("q", ("box", "q")), ("n", ("box", "n"))))})

    def test_told_dicts_emptied_behind_the_call(self):
        ways = dict(WAYS)
        places = dict(PLACES)
        over = Over(FIRST, SECOND, ways, places)
        stand = (0, {"p": ("pt", (1, 2)), "o": ("old", (3,)), "f": ("flag", "up", 4), "n": 5})
        told = (copy.deepcopy(fields_of(over)), brought(over, "two", stand), letter_over(over, "c", ("pt", (1, 2))))
        ways.clear()
        places.clear()
        self.assertEqual((fields_of(over), brought(over, "two", stand), letter_over(over, "c", ("pt", (1, 2)))), told)
        ways["pt"] = ("num", ("num", 1))
        places[("two", "l")] = ("i", sets(u="9"))
        self.assertEqual((fields_of(over), brought(over, "two", stand), letter_over(over, "c", ("pt", (1, 2)))), told)

    def test_another_over_of_the_same(self):
        one = Over(FIRST, SECOND, WAYS, PLACES)
        before = copy.deepcopy(fields_of(one))
        other = Over(FIRST, SECOND, WAYS, {})
        self.assertEqual(other.lacking, (["old"], [("one", "j"), ("two", "l"), ("two", "m")]))
        Over(FIRST, FIRST, {}, {})
        self.assertEqual(fields_of(one), before)
        self.assertEqual(fields_of(Over(FIRST, SECOND, WAYS, PLACES)), before)

    def test_two_overs_share_nothing(self):
        one = Over(FIRST, SECOND, WAYS, PLACES)
        other = Over(FIRST, SECOND, WAYS, PLACES)
        for mine, theirs in zip(fields_of(one)[2:4] + one.lacking, fields_of(other)[2:4] + other.lacking):
            self.assertIsNot(mine, theirs)
        self.assertIsNot(one.ways, WAYS)
        self.assertIsNot(one.places, PLACES)

    def test_no_rows_alike_are_asked_for(self):
        first = read("channel c a b num\nhand a\nend\nhand b\nbox n num\ntake m c n\nend")
        second = read("rec z\nchannel c a b num\nhand a\nbox z z\nsend c 1\ngo 0\nhand b\nend")
        self.assertEqual(self.fits(first, second).lacking, ([], [("b", "m")]))


TEXT = """rec p n num
alt w on p off num
channel c a b p
channel d b a num
channel e a a w
hand a
end
hand b
end"""


class Fit(Overs):
    def changed(self, old, new):
        """The second make of TEXT with one text in another one's place."""
        self.assertIn(old, TEXT)
        return read(TEXT.replace(old, new))

    def test_as_it_is(self):
        self.fits(read(TEXT), read(TEXT))
        self.fits(read(TEXT), self.changed("rec p n num", "rec p m num n num"))
        self.fits(read(TEXT), self.changed("alt w on p off num", "alt w off num more num on p\nrec z"))

    def test_other_hands(self):
        hands = "hand a\nend\nhand b\nend"
        for new in ["hand a\nend\nhand b\nend\nhand z\nend", "hand z\nend\nhand a\nend\nhand b\nend",
                    "hand a\nend\nhand z\nend\nhand b\nend", "hand b\nend\nhand a\nend"]:
            self.refused(NoFit, read(TEXT), self.changed(hands, new))
            self.refused(NoFit, self.changed(hands, new), read(TEXT))
        for one, other in [("a", "b"), ("a", ""), ("", "a"), ("a b", "a"), ("a b", "b"), ("a b c", "a c b"),
                           ("a b c", "a b d"), ("a b c", "d b c"), ("a b c d", "a b c")]:
            makes = ["\n".join(f"hand {h}\nend" for h in names.split()) for names in [one, other]]
            self.refused(NoFit, read(makes[0]), read(makes[1]))

    def test_other_channels(self):
        rows = "channel c a b p\nchannel d b a num\nchannel e a a w"
        kept = rows.split("\n")
        others = ["\n".join(order) for order in itertools.permutations(kept) if list(order) != kept]
        others += ["\n".join(kept[:at] + kept[at + 1:]) for at in range(3)]
        others += ["\n".join(kept[:at] + ["channel z a b num"] + kept[at:]) for at in range(4)]
        for new in others:
            self.refused(NoFit, read(TEXT), self.changed(rows, new))
            self.refused(NoFit, self.changed(rows, new), read(TEXT))
        self.refused(NoFit, read(TEXT), self.changed(rows + "\n", ""))
        self.refused(NoFit, self.changed(rows + "\n", ""), read(TEXT))

    def test_channels_of_another_name_or_between_others(self):
        for old, new in [("channel c a b p", "channel z a b p"), ("channel d b a num", "channel z b a num"),
                         ("channel e a a w", "channel z a a w"), ("channel c a b p", "channel c b b p"),
                         ("channel c a b p", "channel c a a p"), ("channel c a b p", "channel c b a p"),
                         ("channel d b a num", "channel d a b num"), ("channel e a a w", "channel e a b w"),
                         ("channel e a a w", "channel e b a w"), ("channel e a a w", "channel e b b w")]:
            self.refused(NoFit, read(TEXT), self.changed(old, new))
            self.refused(NoFit, self.changed(old, new), read(TEXT))

    def test_channels_of_another_kind(self):
        for old, news in [("c a b p", ["c a b num", "c a b w"]), ("d b a num", ["d b a p", "d b a w"]),
                          ("e a a w", ["e a a num", "e a a p"])]:
            for new in news:
                self.refused(NoFit, read(TEXT), self.changed(old, new))
                self.refused(NoFit, self.changed(old, new), read(TEXT))

    def test_channels_of_a_kind_to_which_a_told_way_leads(self):
        to_num = {"p": ("num", ("box", "n"))}
        first = read("rec p n num\nchannel c a a p\nhand a\nend")
        second = read("rec p n num\nrec q n num\nchannel c a a num\nhand a\nend")
        self.fits(first, second, to_num)
        self.refused(NoFit, first, second)
        self.refused(NoFit, first, second, {"p": ("q", term_of("(rec q n)"))})
        second = read("rec p n num\nrec q n num\nchannel c a a q\nhand a\nend")
        self.fits(first, second, {"p": ("q", term_of("(rec q n)"))})
        self.refused(NoFit, first, second)
        self.refused(NoFit, first, second, to_num)

    def test_a_channel_whose_kind_lacks_a_way(self):
        first = read("rec p n num\nchannel c a a p\nhand a\nend")
        for second in ["rec q n num\nchannel c a a q\nhand a\nend", "alt p n num\nchannel c a a p\nhand a\nend",
                       "rec n\nrec p n n\nchannel c a a p\nhand a\nend", "channel c a a num\nhand a\nend"]:
            self.refused(NoFit, first, read(second))

    def test_a_kind_that_lacks_a_way_where_no_channel_has_it(self):
        first = read("rec p n num\nchannel c a a num\nhand a\nend")
        self.assertEqual(self.fits(first, read("channel c a a num\nhand a\nend")).lacking, (["p"], []))


# Ways of kinds that aren't right, and by what they are refused.
BAD_WAYS = [(NoName, {"zz": ("num", ("num", 1))}), (NoName, {"pt": ("zz", ("num", 1))}),
            (Lacks, {"flag": ("num", ())}), (Lacks, {"flag": ("num", (("down", ("num", 1)), ("up", ("num", 1))))}),
            (Lacks, {"pt": ("num", (("x", ("num", 1)),))}), (WrongKind, {"pt": ("num", ("num", 4294967296))}),
            (NoName, {"pt": ("num", ("box", "zz"))}), (WrongKind, {"pt": ("spot", ("box", "x"))}),
            (NoCount, {"pt": ("spot", term_of("(rec spot x y)"))}),
            (Twice, {"pt": ("num", term_of("(case (tag only one 1) (one x 1))"))})]
# The same of places.
BAD_PLACES = [(NoName, {("zz", "l"): RIGHT}), (NoName, {("two", "zz"): RIGHT}), (NoName, {("two", "k"): RIGHT}),
              (NoName, {("two", "l"): ("zz", RIGHT[1])}), (NoName, {("two", "l"): ("m", RIGHT[1])}),
              (Lacks, {("two", "l"): ("l", ())}), (Lacks, {("two", "l"): ("l", tuple(reversed(RIGHT[1])))}),
              (WrongKind, {("two", "l"): ("l", sets(u="p"))}), (WrongKind, {("two", "l"): ("l", sets(u="4294967296"))}),
              (NoName, {("two", "l"): ("l", sets(u="o"))}), (NoName, {("two", "l"): ("l", sets(s="zz"))}),
              (NoCount, {("two", "l"): ("l", sets(s="(rec spot)"))}),
              (Twice, {("two", "l"): ("l", sets(u="(case (tag only one 1) (one p 1))"))})]
# Makes that don't fit with FIRST.
THREE = (SECOND[0], SECOND[1], SECOND[2] + (("three", (), (("end",),)),))
TURNED = (SECOND[0], tuple(reversed(SECOND[1])), SECOND[2])
FEWER = (SECOND[0], SECOND[1][:2], ((SECOND[2][0]), ("two", SECOND[2][1][1], (SECOND[2][1][2][0], ("end",)))))
BAD_SECONDS = [THREE, TURNED, FEWER]


class Refused(Overs):
    def test_the_makes_here(self):
        for make in BAD_SECONDS:
            self.assertIs(look(make), True)
            self.refused(NoFit, FIRST, make, WAYS)

    def test_ways_that_are_not_right(self):
        for refusal, bad in BAD_WAYS:
            self.refused(refusal, FIRST, SECOND, {**WAYS, **bad})
            self.refused(refusal, FIRST, SECOND, {**bad, **{K: WAYS[K] for K in WAYS if K not in bad}})
            self.refused(refusal, FIRST, SECOND, bad)

    def test_places_that_are_not_right(self):
        for refusal, bad in BAD_PLACES:
            self.refused(refusal, FIRST, SECOND, WAYS, bad)
            self.refused(refusal, FIRST, SECOND, WAYS, {**PLACES, **bad})
            self.refused(refusal, FIRST, SECOND, WAYS, {**bad, ("two", "m"): PLACES[("two", "m")]})

    def test_a_told_place_where_a_right_one_stands_by_rules(self):
        self.refused(Lacks, FIRST, SECOND, WAYS, {("one", "k"): ("k", ())})
        self.refused(NoName, FIRST, SECOND, WAYS, {("one", "k"): ("j", (("n", ("box", "n")),))})

    def test_ways_ahead_of_makes_that_do_not_fit(self):
        for (refusal, bad), second in itertools.product(BAD_WAYS, BAD_SECONDS):
            self.refused(refusal, FIRST, second, {**WAYS, **bad})
            self.refused(refusal, FIRST, second, bad)

    def test_ways_ahead_of_places(self):
        for (refusal, ways), (_, places) in itertools.product(BAD_WAYS, BAD_PLACES):
            self.refused(refusal, FIRST, SECOND, {**WAYS, **ways}, places)

    def test_makes_that_do_not_fit_ahead_of_places(self):
        for second, (_, places) in itertools.product(BAD_SECONDS, BAD_PLACES):
            self.refused(NoFit, FIRST, second, WAYS, places)

    def test_a_channels_kind_ahead_of_places(self):
        for _, places in BAD_PLACES:
            self.refused(NoFit, FIRST, SECOND, {}, places)
            self.refused(NoFit, FIRST, SECOND, {"pt": WAYS["pt"]}, places)

    def test_all_three(self):
        for (refusal, ways), second, (_, places) in itertools.product(BAD_WAYS, BAD_SECONDS, BAD_PLACES):
            self.refused(refusal, FIRST, second, {**WAYS, **ways}, places)

    def test_told_ways_are_looked_at_with_those_by_rules(self):
        first = read("rec a n num\nrec b a a\nhand h\nend")
        second = read("rec a n num m num\nrec b a a\nhand h\nend")
        self.fits(first, second, {"b": ("num", term_of("(get a m)"))})
        self.refused(NoName, first, second, {"b": ("num", term_of("(get a z)"))})
        self.refused(WrongKind, first, second, {"b": ("num", ("box", "a"))})


class Brought(unittest.TestCase):
    def brings(self, over, h, stand, other):
        with self.subTest(h=h, stand=stand):
            before = copy.deepcopy(stand)
            found = brought(over, h, stand)
            self.assertEqual(found, other)
            self.assertEqual(stand, before)
            self.assertEqual(list(stand[1]), list(before[1]))
            if found is not None:
                self.assertEqual([type(found), type(found[1])], [tuple, dict])
                self.assertIsNot(found[1], stand[1])
                found[1].clear()
            self.assertEqual(brought(over=over, h=h, stand=stand), other)
            self.assertEqual(stand, before)

    def test_each_row_of_each_hand(self):
        over = Over(FIRST, SECOND, WAYS, PLACES)
        boxes = {"n": 5, "m": 6}
        for row, other in enumerate([(0, {"n": 5}), None, None, None]):
            self.brings(over, "one", (row, boxes), other)
        boxes = {"p": ("pt", (1, 2)), "o": ("old", (3,)), "f": ("flag", "up", 4), "n": 5}
        left = (0, {"s": ("spot", (1, 2, 7)), "u": 5, "o": ("only", "one", 1)})
        right = (2, {"s": ("spot", (4, 5, 1)), "u": 7, "o": ("only", "one", 4)})
        for row, other in enumerate([left, None, right, None, None]):
            self.brings(over, "two", (row, boxes), other)

    def test_values_of_the_terms(self):
        over = Over(FIRST, SECOND, WAYS, {("two", "l"): ("i", sets("(rec spot (get p y) f n)", "(+ n (get p z))",
                                                                   "(if f (tag only one n) (tag only one 9))"))})
        for x, y, n, f in itertools.product([0, 1, 4294967295], [0, 3], [0, 4294967295], ["up", "down"]):
            boxes = {"p": ("pt", (x, y)), "o": ("old", (3,)), "f": ("flag", f, 8), "n": n}
            flag = 8 if f == "up" else 0
            self.brings(over, "two", (0, boxes), (2, {"s": ("spot", (y, flag, n)), "u": (n + 7) % 2 ** 32,
                                                      "o": ("only", "one", n if f == "up" else 9)}))

    def test_a_place_without_a_way(self):
        over = Over(FIRST, SECOND, WAYS, {})
        boxes = {"p": ("pt", (1, 2)), "o": ("old", (3,)), "f": ("flag", "up", 4), "n": 5}
        for row in range(5):
            self.brings(over, "two", (row, boxes), None)
        for row in range(4):
            self.brings(over, "one", (row, {"n": 1, "m": 2}), (0, {"n": 1}) if row == 0 else None)

    def test_another_hands_place_of_that_mark(self):
        text = "channel c a b num\nchannel d b a num\nhand a\nbox n num\ntake m d n\nend\nhand b\nbox n num\n{}end"
        over = Over(read(text.format("take m c n\n")), read(text.format("")), {}, {})
        self.brings(over, "a", (0, {"n": 4}), (0, {"n": 4}))
        self.brings(over, "b", (0, {"n": 4}), None)

    def test_a_row_that_bears_the_name_of_a_mark(self):
        make = read("channel m h h num\nhand h\nbox m num\nsend m m\nset m m\ntake m m m\nend")
        over = Over(make, make, {}, {})
        for row in range(4):
            self.brings(over, "h", (row, {"m": 4}), (2, {"m": 4}) if row == 2 else None)

    def test_by_rules_boxes_are_kept_lost_and_new(self):
        first = read("rec p x num\nchannel c h h p\nhand h\nbox a num\nbox b num\nbox p p\ntell a\ntake m c p\nend")
        second = read("rec p y num x num\nchannel c h h p\nhand h\nbox p p\nbox z p\nbox b num\ntake m c p\nend")
        over = Over(first, second, {}, {})
        self.brings(over, "h", (1, {"a": 1, "b": 2, "p": ("p", (3,))}),
                    (0, {"p": ("p", (0, 3)), "z": ("p", (0, 0)), "b": 2}))

    def test_just_the_second_makes_boxes_in_order(self):
        over = Over(FIRST, SECOND, WAYS, PLACES)
        boxes = {"n": 5, "o": ("old", (3,)), "p": ("pt", (1, 2)), "f": ("flag", "up", 4)}
        self.assertEqual(list(brought(over, "two", (0, boxes))[1]), ["s", "u", "o"])

    def test_an_arms_box_called_like_one_that_does_not_go_over(self):
        way = ("l", sets(u="(case (tag only one (+ n 1)) (one o (* o 2)))"))
        over = Over(FIRST, SECOND, WAYS, {("two", "l"): way})
        boxes = {"p": ("pt", (1, 2)), "o": ("old", (3,)), "f": ("flag", "up", 4), "n": 5}
        self.brings(over, "two", (0, boxes), (0, {"s": ("spot", (1, 2, 7)), "u": 12, "o": ("only", "one", 1)}))

    def test_a_make_to_itself(self):
        source = random.Random(102)
        seen = 0
        for make in [PAIR, SELF, FIRST]:
            over = Over(make, make, {}, {})
            house = Plain(make)
            for h in stirred(source, make, 40):
                house.step(h)
                row = hand_of(make, h)[2][house.stand(h)[0]]
                self.brings(over, h, house.stand(h), house.stand(h) if row[0] == "take" else None)
                seen += row[0] == "take"
        self.assertGreater(seen, 20)

    def test_boxes_told_changed_by_the_asker(self):
        over = Over(FIRST, SECOND, WAYS, PLACES)
        stand = (0, {"p": ("pt", (1, 2)), "o": ("old", (3,)), "f": ("flag", "up", 4), "n": 5})
        told = brought(over, "two", stand)
        told[1]["u"] = 99
        told[1]["more"] = 1
        self.assertEqual(brought(over, "two", stand), (0, {"s": ("spot", (1, 2, 7)), "u": 5, "o": ("only", "one", 1)}))

    def test_a_stand_changed_behind_the_call(self):
        over = Over(FIRST, SECOND, WAYS, PLACES)
        boxes = {"p": ("pt", (1, 2)), "o": ("old", (3,)), "f": ("flag", "up", 4), "n": 5}
        told = brought(over, "two", (0, boxes))
        boxes["n"] = 77
        boxes.clear()
        self.assertEqual(told, (0, {"s": ("spot", (1, 2, 7)), "u": 5, "o": ("only", "one", 1)}))

    def test_stands_of_chance(self):
        source = random.Random(103)
        seen = {True: 0, False: 0}
        for _ in range(150):
            over = Over(*right_over(source))
            for h, boxes, rows in over.first[2]:
                values = {x: worth(KINDS, random_made(source, kind, {}, 1), {}) for x, kind in boxes}
                for k, row in enumerate(rows):
                    found = brought(over, h, (k, values))
                    there = row[0] == "take" and (h, row[1]) in over.places
                    self.assertIs(found is not None, there)
                    seen[there] += 1
                    if there:
                        self.check_stand(over, h, row[1], values, found)
        self.assertGreater(min(seen.values()), 150)

    def check_stand(self, over, h, l, values, found):
        mark, sets_told = over.places[(h, l)]
        self.assertEqual(found[0], mark_row(over.second, h, mark))
        model = MixedModel(over)
        model.boxes[h] = dict(values)
        model.row[h] = mark_row(over.first, h, l)
        self.assertTrue(model.change(h))
        self.assertEqual(found[1], model.boxes[h])
        self.assertEqual(list(found[1]), [x for x, _ in sets_told])
        self.assertTrue(all(is_of(over.second[0], kind, found[1][x]) for x, kind in hand_of(over.second, h)[1]))

    def test_a_hand_at_its_begin(self):
        over = Over(FIRST, SECOND, WAYS, PLACES)
        self.brings(over, "two", begin_of(FIRST, "two"),
                    (0, {"s": ("spot", (0, 0, 7)), "u": 0, "o": ("only", "one", 1)}))


class Letters(unittest.TestCase):
    def test_a_letter_of_each_channel(self):
        over = Over(FIRST, SECOND, WAYS, PLACES)
        for c, value, other in [("c", ("pt", (3, 4)), ("spot", (3, 4, 7))), ("c", ("pt", (0, 0)), ("spot", (0, 0, 7))),
                                ("d", 0, 0), ("d", 8, 8), ("d", 4294967295, 4294967295),
                                ("e", ("flag", "up", 6), 6), ("e", ("flag", "down", 6), 0)]:
            for _ in range(2):
                self.assertEqual(letter_over(over, c, value), other)
            self.assertEqual(letter_over(over=over, c=c, value=value), other)

    def test_recs_and_alts_by_rules(self):
        first = read("rec p x num y num\nalt w on p off num\nchannel w h h w\nchannel p h h p\nhand h\nend")
        second = read("rec p y num\nalt w off num on p up num\nchannel w h h w\nchannel p h h p\nhand h\nend")
        over = Over(first, second, {}, {})
        for c, value, other in [("p", ("p", (1, 2)), ("p", (2,))), ("w", ("w", "off", 5), ("w", "off", 5)),
                                ("w", ("w", "on", ("p", (1, 2))), ("w", "on", ("p", (2,))))]:
            self.assertEqual(letter_over(over, c, value), other)

    def test_a_make_to_itself(self):
        for make in [PAIR, SELF]:
            over = Over(make, make, {}, {})
            house = Plain(make)
            house.weave(stirred(random.Random(104), make, 60))
            for channel in make[1]:
                for letter in house.letters(channel[0]):
                    self.assertEqual(letter_over(over, channel[0], letter), letter)

    def test_letters_of_chance(self):
        source = random.Random(105)
        for _ in range(100):
            over = Over(*right_over(source))
            for (c, _, _, kind), (_, _, _, new) in zip(over.first[1], over.second[1]):
                value = worth(KINDS, random_made(source, kind, {}, 1), {})
                other = letter_over(over, c, value)
                self.assertEqual(other, turned(over.first, over.second, over.ways, kind, value))
                self.assertTrue(is_of(over.second[0], new, other))
