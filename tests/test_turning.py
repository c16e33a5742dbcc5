"""Values turned into those of a second make [2], [3], [16], [17], [18], [19]."""

import copy
import itertools
import random
import unittest

from swapstride.bricks import term_of
from swapstride.looker import look
from swapstride.overs import Over
from swapstride.turning import turned
from swapstride.values import is_of, nought
from swapstride.ways import goes_to, look_ways, made_ways
from swapstride.worth import worth
from tests.chance import OTHERS, MixedModel, right_over, right_ways
from tests.test_kinds import KINDS
from tests.test_terms import random_made
from tests.test_ways import FIRST, FREE, IT, RIGHT, SECOND, kinds_of, varied

WIDE = 4294967296
NUMBERS = [0, 1, 2, 7, WIDE - 2, WIDE - 1]

NONE = ("none", ())


def pt(x, y):
    return ("pt", (x, y))


def spot(x, y, z):
    return ("spot", (x, y, z))


class Turning(unittest.TestCase):
    def turns(self, kind, value, other, ways=RIGHT, first=FIRST, second=SECOND):
        """Turned, told again, with nothing handed in changed, to a value of the kind to which the kind goes."""
        with self.subTest(kind=kind, value=value, ways=ways):
            before = copy.deepcopy(ways)
            look_ways(first, second, ways)
            self.assertTrue(is_of(first[0], kind, value))
            self.assertEqual(turned(first, second, ways, kind, value), other)
            self.assertEqual(turned(first=first, second=second, ways=ways, kind=kind, value=value), other)
            self.assertTrue(is_of(second[0], goes_to(ways, kind), other))
            self.assertEqual(list(ways.items()), list(before.items()))

    def told(self, text, second, how, value, other, K2="num"):
        """A rec `a` of a first make, and what its value becomes by a term."""
        self.turns("a", value, other, {"a": (K2, term_of(how))}, kinds_of(text), kinds_of(second))

    def ruled(self, first, second, kind, value, other):
        """Turned by the ways that rules find."""
        first = kinds_of(first)
        second = kinds_of(second)
        self.turns(kind, value, other, made_ways(first, second, {})[0], first, second)


class Numbers(Turning):
    def test_a_number_stays(self):
        for n in NUMBERS:
            self.turns("num", n, n)
            self.turns("num", n, n, {})
            self.turns("num", n, n, {}, ((), (), ()), ((), (), ()))

    def test_whatever_ways_there_are(self):
        for n in NUMBERS:
            self.turns("num", n, n, {"pt": ("num", ("num", 5)), "sign": ("num", (("up", ("num", 1)), ("down", IT)))})
            self.assertIs(type(turned(FIRST, SECOND, RIGHT, "num", n)), int)


class Told(Turning):
    def test_recs(self):
        self.turns("none", NONE, NONE)
        for x, y in itertools.product(NUMBERS, NUMBERS):
            self.turns("pt", pt(x, y), spot(x, y, 7))

    def test_alts(self):
        self.turns("sign", ("sign", "up", NONE), ("mark", "high", NONE))
        for n in NUMBERS:
            self.turns("sign", ("sign", "down", n), ("mark", "low", (n + 1) % WIDE))

    def test_recs_and_alts_in_one_another(self):
        line = ("line", (pt(1, 2), pt(3, 4), ("sign", "down", 5)))
        self.turns("line", line, ("line", (spot(1, 2, 7), 3)))
        self.turns("shape", ("shape", "dot", pt(8, 9)), ("shape", "dot", spot(8, 9, 7)))
        self.turns("shape", ("shape", "far", line), ("shape", "far", ("line", (spot(1, 2, 7), 3))))
        self.turns("shape", ("shape", "not", NONE), ("shape", "not", NONE))

    def test_each_in_another_order_of_the_ways(self):
        line = ("line", (pt(1, 2), pt(3, 4), ("sign", "up", NONE)))
        for order in itertools.permutations(RIGHT):
            self.turns("shape", ("shape", "far", line), ("shape", "far", ("line", (spot(1, 2, 7), 3))),
                       {K: RIGHT[K] for K in order})

    def test_to_num(self):
        ways = {"none": ("num", ("num", 0)), "pt": ("num", term_of("(- x y)")),
                "sign": ("num", (("up", IT), ("down", ("op", "*", IT, ("num", 2))))),
                "line": ("num", term_of("(+ (* 100 a) (+ (* 10 b) s))")),
                "shape": ("num", (("dot", IT), ("far", ("op", "+", IT, ("num", 1))), ("not", ("num", WIDE - 1))))}
        self.turns("none", NONE, 0, ways)
        self.turns("pt", pt(9, 2), 7, ways)
        self.turns("pt", pt(2, 3), WIDE - 1, ways)
        self.turns("sign", ("sign", "up", NONE), 0, ways)
        self.turns("sign", ("sign", "down", 8), 16, ways)
        line = ("line", (pt(3, 1), pt(9, 4), ("sign", "down", 2)))
        self.turns("line", line, 254, ways)
        self.turns("shape", ("shape", "dot", pt(5, 4)), 1, ways)
        self.turns("shape", ("shape", "far", line), 255, ways)
        self.turns("shape", ("shape", "not", NONE), WIDE - 1, ways)

    def test_to_a_kind_of_the_other_sort_and_name(self):
        ways = {"pt": ("mark", term_of("(if x (tag mark high (rec none)) (tag mark deep (rec spot x y 1)))")),
                "sign": ("spot", (("up", term_of("(rec spot 1 2 3)")),
                                  ("down", ("rec", "spot", (IT, IT, ("num", 0)))))),
                "line": ("only", term_of("(tag only one (case a (high q 1) (low q q) (deep q (get s x))))"))}
        self.turns("pt", pt(1, 2), ("mark", "high", NONE), ways)
        self.turns("pt", pt(0, 2), ("mark", "deep", spot(0, 2, 1)), ways)
        self.turns("sign", ("sign", "up", NONE), spot(1, 2, 3), ways)
        self.turns("sign", ("sign", "down", 6), spot(6, 6, 0), ways)
        self.turns("line", ("line", (pt(4, 4), pt(0, 0), ("sign", "down", 9))), ("only", "one", 1), ways)
        self.turns("line", ("line", (pt(0, 4), pt(0, 0), ("sign", "down", 9))), ("only", "one", 9), ways)

    def test_two_kinds_to_one_and_names_changed_about(self):
        first = kinds_of("rec a n num\nrec b n num\nrec c a a b b")
        second = kinds_of("rec b n num\nrec a n num\nrec c a a b b")
        ways = {"a": ("b", term_of("(rec b (+ n 1))")), "b": ("a", term_of("(rec a (+ n 2))")),
                "c": ("c", term_of("(rec c b a)"))}
        self.turns("c", ("c", (("a", (10,)), ("b", (20,)))), ("c", (("a", (22,)), ("b", (11,)))), ways, first, second)
        ways = {"a": ("a", term_of("(rec a n)")), "b": ("a", term_of("(rec a (* n n))")),
                "c": ("num", term_of("(+ (get a n) (get b n))"))}
        self.turns("c", ("c", (("a", (10,)), ("b", (20,)))), 410, ways, first, second)

    def test_kinds_and_fields_of_the_same_names(self):
        first = kinds_of("rec a a num b num\nrec b a a b num\nalt c a a b b c num")
        second = kinds_of("rec b a num\nrec a a b c num\nalt c c b")
        ways = {"a": ("b", term_of("(rec b (+ a b))")), "b": ("a", term_of("(rec a a b)")),
                "c": ("c", (("a", ("tag", "c", "c", IT)), ("b", ("tag", "c", "c", ("get", IT, "a"))),
                            ("c", ("tag", "c", "c", ("rec", "b", (IT,))))))}
        one = ("a", (3, 4))
        two = ("b", (one, 5))
        self.turns("a", one, ("b", (7,)), ways, first, second)
        self.turns("b", two, ("a", (("b", (7,)), 5)), ways, first, second)
        for tag, value, n in [("a", one, 7), ("b", two, 7), ("c", 9, 9)]:
            self.turns("c", ("c", tag, value), ("c", "c", ("b", (n,))), ways, first, second)

    def test_it_is_the_value_turned(self):
        ways = {**RIGHT, "shape": ("num", (("dot", ("get", IT, "z")), ("far", ("get", ("get", IT, "a"), "z")),
                                           ("not", ("num", 1))))}
        self.turns("shape", ("shape", "dot", pt(1, 2)), 7, ways)
        self.turns("shape", ("shape", "far", ("line", (pt(1, 2), pt(3, 4), ("sign", "up", NONE)))), 7, ways)


class Terms(Turning):
    """Told ways of every form of term."""

    A = "rec none\nrec p n num\nalt w on p off num\nrec a x num y num"
    SECOND = "rec none\nrec p m num n num\nalt v off num on p"

    def each(self, how, other, K2="num"):
        first = kinds_of(self.A)
        self.turns("a", ("a", (3, 5)), other, {"a": (K2, term_of(how))}, first, kinds_of(self.SECOND))

    def test_numbers_and_boxes(self):
        for n in NUMBERS:
            self.each(str(n), n)
        self.each("x", 3)
        self.each("y", 5)

    def test_ops(self):
        for how, other in [("(+ x y)", 8), ("(- y x)", 2), ("(- x y)", WIDE - 2), ("(* x y)", 15), ("(< x y)", 1),
                           ("(< y x)", 0), ("(= x y)", 0), ("(= x 3)", 1), ("(* (+ x y) (- y 4))", 8)]:
            self.each(how, other)

    def test_ifs(self):
        for how, other in [("(if x 1 2)", 1), ("(if 0 x y)", 5), ("(if (< x y) (+ x 1) y)", 4),
                           ("(if (= x y) 1 (if y x 2))", 3)]:
            self.each(how, other)

    def test_recs_tags_and_gets(self):
        self.each("(rec none)", NONE, "none")
        self.each("(rec p y x)", ("p", (5, 3)), "p")
        self.each("(get (rec p y x) n)", 3)
        self.each("(tag v off x)", ("v", "off", 3), "v")
        self.each("(tag v on (rec p 0 y))", ("v", "on", ("p", (0, 5))), "v")

    def test_cases(self):
        self.each("(case (tag v off x) (on q (get q m)) (off q (+ q y)))", 8)
        self.each("(case (tag v on (rec p x y)) (on q (get q m)) (off q (+ q y)))", 3)
        self.each("(case (if x (tag v off 1) (tag v off 2)) (off q (tag v off (+ q x))) (on r (tag v on r)))",
                  ("v", "off", 4), "v")

    def test_gets_and_cases_of_fields_by_the_second_make(self):
        first = kinds_of(self.A + "\nrec b p p w w n num")
        second = kinds_of(self.SECOND)
        ways = {"p": ("p", term_of("(rec p (+ n 1) n)")),
                "w": ("v", (("on", ("tag", "v", "on", IT)), ("off", ("tag", "v", "off", IT)))),
                "b": ("num", term_of("(+ (get p m) (case w (off q q) (on q (get q m))))"))}
        self.turns("b", ("b", (("p", (10,)), ("w", "on", ("p", (20,))), 7)), 32, ways, first, second)
        self.turns("b", ("b", (("p", (10,)), ("w", "off", 300), 7)), 311, ways, first, second)

    def test_terms_of_an_alts_tags(self):
        first = kinds_of(self.A)
        second = kinds_of(self.SECOND)
        by_rules = made_ways(first, second, {})[0]["p"]
        for on, off, one, other in [
                (("num", 4), IT, 4, 9), (("get", IT, "n"), ("op", "<", IT, ("num", 9)), 6, 0),
                (("get", IT, "m"), ("if", IT, ("num", 1), ("num", 2)), 0, 1),
                (term_of("(get (rec p 1 2) n)"), term_of("(case (tag v off 8) (off q q) (on q 0))"), 2, 8),
                (("op", "+", ("get", IT, "n"), ("get", IT, "n")), ("op", "-", ("num", 0), IT), 12, WIDE - 9)]:
            ways = {"p": by_rules, "w": ("num", (("on", on), ("off", off)))}
            self.turns("w", ("w", "on", ("p", (6,))), one, ways, first, second)
            self.turns("w", ("w", "off", 9), other, ways, first, second)

    def test_an_if_and_a_case_take_but_one_side(self):
        self.told("rec a x num", "alt v on num off num", "(case (tag v on x) (off q 0) (on q (* q 2)))", ("a", (4,)), 8)
        self.told("rec a x num", "", "(if x 0 (if x 1 2))", ("a", (0,)), 2)


class Lost(Turning):
    """Parts that don't go over."""

    FIRST = "rec p n num\nalt w on p off num\nrec a p p w w n num"

    def test_fields(self):
        for how, other in [("n", 7), ("(+ n 1)", 8), ("4", 4)]:
            self.turns("a", ("a", (("p", (1,)), ("w", "off", 3), 7)), other, {"a": ("num", term_of(how))},
                       kinds_of(self.FIRST), kinds_of(""))

    def test_some_fields(self):
        ways = {"p": ("num", term_of("(* n 2)")), "a": ("num", term_of("(+ p n)"))}
        self.turns("a", ("a", (("p", (30,)), ("w", "off", 3), 7)), 67, ways, kinds_of(self.FIRST), kinds_of(""))
        ways = {"w": ("num", (("on", ("num", 50)), ("off", IT))), "a": ("num", term_of("(+ w n)"))}
        self.turns("a", ("a", (("p", (30,)), ("w", "off", 3), 7)), 10, ways, kinds_of(self.FIRST), kinds_of(""))
        self.turns("a", ("a", (("p", (30,)), ("w", "on", ("p", (1,))), 7)), 57, ways, kinds_of(self.FIRST),
                   kinds_of(""))

    def test_what_a_tag_holds(self):
        ways = {"w": ("num", (("on", ("num", 50)), ("off", IT)))}
        for n in NUMBERS:
            self.turns("w", ("w", "on", ("p", (n,))), 50, ways, kinds_of(self.FIRST), kinds_of(""))
            self.turns("w", ("w", "off", n), n, ways, kinds_of(self.FIRST), kinds_of(""))

    def test_what_goes_over_but_is_not_asked_for(self):
        ways = {**FREE, "line": ("num", ("num", 6))}
        self.turns("line", ("line", (pt(1, 2), pt(3, 4), ("sign", "up", NONE))), 6, ways)

    def test_an_arms_box_called_like_a_field_that_is_lost(self):
        case = "(case (tag v on (+ n 1)) (on {0} {0}))"
        value = ("a", (("p", (30,)), ("w", "off", 3), 7))
        for x in ["p", "w"]:
            self.turns("a", value, 8, {"a": ("num", term_of(case.format(x)))}, kinds_of(self.FIRST),
                       kinds_of("alt v on num"))
        ways = {"p": ("num", term_of("n")), "a": ("num", term_of("(case (tag v on (+ p n)) (on w (+ p w)))"))}
        self.turns("a", value, 67, ways, kinds_of(self.FIRST), kinds_of("alt v on num"))

    def test_an_arms_box_beside_it_that_is_lost(self):
        arm = ("case", ("tag", "v", "on", ("num", 4)), (("on", "q", ("box", "q")),))
        ways = {"w": ("num", (("on", arm), ("off", ("op", "+", IT, arm))))}
        self.turns("w", ("w", "on", ("p", (1,))), 4, ways, kinds_of(self.FIRST), kinds_of("alt v on num"))
        self.turns("w", ("w", "off", 10), 14, ways, kinds_of(self.FIRST), kinds_of("alt v on num"))


class ByRules(Turning):
    def test_the_same_kinds(self):
        text = "rec e\nrec p x num y num\nalt w on p off e by num\nrec l w w p p\nalt m l l n num"
        w = ("w", "on", ("p", (WIDE - 1, 0)))
        for kind, value in [("num", 5), ("e", ("e", ())), ("p", ("p", (1, 2))), ("w", w),
                            ("w", ("w", "off", ("e", ()))), ("w", ("w", "by", 4)), ("l", ("l", (w, ("p", (3, 4))))),
                            ("m", ("m", "n", WIDE - 1)),
                            ("m", ("m", "l", ("l", (w, ("p", (0, 0))))))]:
            self.ruled(text, text, kind, value, value)

    def test_fields_more(self):
        self.ruled("rec a x num", "rec e\nalt w on num\nrec a e e x num w w n num", "a", ("a", (5,)),
                   ("a", (("e", ()), 5, ("w", "on", 0), 0)))
        self.ruled("rec a", "rec a x num y num", "a", ("a", ()), ("a", (0, 0)))

    def test_fields_fewer(self):
        self.ruled("rec a x num y num z num", "rec a y num", "a", ("a", (1, 2, 3)), ("a", (2,)))
        self.ruled("rec a x num", "rec a", "a", ("a", (1,)), ("a", ()))
        self.ruled("rec e\nrec a x num y e", "rec a x num", "a", ("a", (1, ("e", ()))), ("a", (1,)))

    def test_fields_turned_about(self):
        self.ruled("rec a x num y num z num", "rec a z num x num y num", "a", ("a", (1, 2, 3)), ("a", (3, 1, 2)))

    def test_fields_of_kinds_that_are_turned_themselves(self):
        first = "rec p x num y num\nrec q a p b p\nalt w t q"
        second = "rec p y num x num\nrec q b p c num a p\nalt w t q"
        self.ruled(first, second, "w",
                   ("w", "t", ("q", (("p", (1, 2)), ("p", (3, 4))))),
                   ("w", "t", ("q", (("p", (4, 3)), 0, ("p", (2, 1))))))

    def test_tags_more_and_turned_about(self):
        first = "rec p x num\nalt w on p off num"
        second = "rec p y num x num\nalt w more num off num on p"
        self.ruled(first, second, "w", ("w", "on", ("p", (5,))), ("w", "on", ("p", (0, 5))))
        self.ruled(first, second, "w", ("w", "off", 9), ("w", "off", 9))

    def test_noughts_of_first_tags(self):
        self.ruled("rec a x num", "rec p n num\nalt w on p off num\nrec a w w", "a", ("a", (4,)),
                   ("a", (("w", "on", ("p", (0,))),)))

    def test_rules_beside_told_ways(self):
        first = kinds_of("rec p x num\nalt w on p off num\nrec l a p w w n num")
        second = kinds_of("rec q z num\nalt w off num on q\nrec l n num w w a q")
        ways = made_ways(first, second, {"p": ("q", term_of("(rec q (+ x 1))"))})[0]
        self.turns("l", ("l", (("p", (1,)), ("w", "on", ("p", (2,))), 3)),
                   ("l", (3, ("w", "on", ("q", (3,))), ("q", (2,)))), ways, first, second)

    def test_noughts_go_over_to_noughts_where_the_first_tags_are_the_same(self):
        ways = made_ways((KINDS, (), ()), (KINDS, (), ()), {})[0]
        for K in ways:
            value = nought(KINDS, K)
            self.turns(K, value, value, ways, (KINDS, (), ()), (KINDS, (), ()))


class Own(Turning):
    def test_ways_changed_behind_the_call(self):
        ways = dict(RIGHT)
        told = turned(FIRST, SECOND, ways, "pt", pt(1, 2))
        ways.clear()
        self.assertEqual(told, spot(1, 2, 7))
        ways["pt"] = ("num", ("num", 3))
        self.assertEqual(turned(FIRST, SECOND, ways, "pt", pt(1, 2)), 3)
        self.assertEqual(turned(FIRST, SECOND, RIGHT, "pt", pt(1, 2)), spot(1, 2, 7))

    def test_great_kinds(self):
        text = ("rec a a num b num c num d num\nrec b a a b a c a d a\nrec c a b b num c num d num")
        first = kinds_of(text)
        one = ("a", (1, 2, 3, 4))
        value = ("c", (("b", (one, one, one, one)), 5, 6, 7))
        self.turns("c", value, value, made_ways(first, first, {})[0], first, first)


class Chance(unittest.TestCase):
    def values_of(self, source, ways):
        for kind in ["num"] + sorted(ways):
            for _ in range(3):
                yield kind, worth(KINDS, random_made(source, kind, {}, 1), {})

    def test_a_value_of_the_kind_to_which_the_kind_goes(self):
        source = random.Random(81)
        seen = 0
        for _ in range(150):
            kinds = source.choice([KINDS, OTHERS])
            first = (KINDS, (), ())
            second = (kinds, (), ())
            ways = made_ways(first, second, right_ways(source, kinds))[0]
            self.assertIs(look_ways(first, second, ways), True)
            for kind, value in self.values_of(source, ways):
                other = turned(first, second, ways, kind, value)
                self.assertTrue(is_of(kinds, goes_to(ways, kind), other))
                self.assertEqual(turned(first, second, ways, kind, value), other)
                seen += other != value
        self.assertGreater(seen, 300)

    def test_as_told_once_more(self):
        source = random.Random(82)
        for _ in range(100):
            over = Over(*right_over(source))
            model = MixedModel(over)
            for kind, value in self.values_of(source, over.ways):
                self.assertEqual(turned(over.first, over.second, over.ways, kind, value), model.turned(kind, value))

    def test_kinds_that_go_over_to_themselves_by_rules(self):
        source = random.Random(83)
        ways = made_ways((KINDS, (), ()), (KINDS, (), ()), {})[0]
        for kind, value in self.values_of(source, ways):
            self.assertEqual(turned((KINDS, (), ()), (KINDS, (), ()), ways, kind, value), value)

    def test_kinds_varied(self):
        source = random.Random(84)
        seen = 0
        for _ in range(200):
            first = (KINDS, (), ())
            second = varied(source, first)
            if not self.let_by(second):
                continue
            ways = made_ways(first, second, {})[0]
            for kind, value in self.values_of(source, ways):
                other = turned(first, second, ways, kind, value)
                self.assertTrue(is_of(second[0], kind, other))
                self.check_parts(first, second, kind, value, other)
                seen += other != value
        self.assertGreater(seen, 200)

    def let_by(self, make):
        try:
            return look(make)
        except ValueError:
            return False

    def check_parts(self, first, second, kind, value, other):
        """By rules, parts of a name become one another, those that are new are noughts."""
        if kind == "num":
            self.assertEqual(other, value)
            return
        sort, olds = [each[1:] for each in first[0] if each[0] == kind][0]
        news = [each[2] for each in second[0] if each[0] == kind][0]
        if sort == "alt":
            self.assertEqual(other[1], value[1])
            self.check_parts(first, second, dict(olds)[value[1]], value[2], other[2])
            return
        values = dict(zip([f for f, _ in olds], value[1]))
        for (f, inner), each in zip(news, other[1]):
            if f in values:
                self.check_parts(first, second, inner, values[f], each)
            else:
                self.assertEqual(each, nought(second[0], inner))
