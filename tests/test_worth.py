"""What terms come to [3], [10], [11]."""

import unittest

from swapstride.bricks import term_of
from swapstride.words import WIDE
from swapstride.worth import worth
from tests.test_kinds import KINDS
from tests.test_terms import BOXES, random_terms

NONE = ("none", ())
POINT = ("pt", (3, 4))
WAY = ("way", "on", POINT)
BIG = ("big", (WAY, ("pt", (5, 6)), 7, NONE))
PICK = ("pick", "b", BIG)
VALUES = {"n": 10, "m": WIDE - 1, "o": NONE, "p": POINT, "w": WAY, "b": BIG, "k": PICK}
WAYS = [("way", "on", ("pt", (8, 9))), ("way", "off", NONE), ("way", "by", 11)]


class Worth(unittest.TestCase):
    def comes_to(self, value, text, boxes=VALUES, kinds=KINDS):
        with self.subTest(text=text, boxes=boxes):
            term = term_of(text)
            handed = dict(boxes)
            self.assertEqual(worth(kinds, term, handed), value)
            self.assertIs(type(worth(kinds, term, handed)), type(value))
            self.assertEqual(list(handed.items()), list(boxes.items()))


class Numbers(Worth):
    def op(self, sign, a, b, value):
        """Of numbers written and of numbers in boxes."""
        self.comes_to(value, f"({sign} {a} {b})", {})
        self.comes_to(value, f"({sign} a b)", {"a": a, "b": b})

    def test_numbers_and_boxes(self):
        for n in [0, 1, WIDE - 1]:
            self.comes_to(n, str(n), {})
            self.comes_to(n, "a", {"a": n})

    def test_plus(self):
        top = WIDE - 1
        for a, b, value in [(0, 0, 0), (2, 3, 5), (top, 0, top), (top, 1, 0), (1, top, 0), (top, 2, 1),
                            (top, top, WIDE - 2), (WIDE - 2, 1, top)]:
            self.op("+", a, b, value)

    def test_minus(self):
        top = WIDE - 1
        for a, b, value in [(0, 0, 0), (5, 3, 2), (3, 3, 0), (0, 1, top), (3, 5, WIDE - 2), (0, top, 1), (top, top, 0),
                            (top, 0, top), (1, top, 2)]:
            self.op("-", a, b, value)

    def test_times(self):
        top = WIDE - 1
        half = 65536
        for a, b, value in [(0, 0, 0), (0, top, 0), (2, 3, 6), (1, top, top), (top, 2, WIDE - 2), (top, top, 1),
                            (half, half, 0), (half, half + 1, half), (half - 1, half + 1, top)]:
            self.op("*", a, b, value)

    def test_less(self):
        top = WIDE - 1
        for a, b, value in [(0, 0, 0), (0, 1, 1), (1, 0, 0), (top, top, 0), (top - 1, top, 1), (top, top - 1, 0),
                            (top, 0, 0), (0, top, 1), (9, 10, 1), (10, 9, 0)]:
            self.op("<", a, b, value)

    def test_equal(self):
        top = WIDE - 1
        for a, b, value in [(0, 0, 1), (0, 1, 0), (1, 0, 0), (top, top, 1), (top, 0, 0), (0, top, 0), (7, 7, 1)]:
            self.op("=", a, b, value)

    def test_ops_within_ops(self):
        self.comes_to(WIDE - 1, "(- (+ m 1) 1)")
        self.comes_to(1, "(< (+ m 1) n)")
        self.comes_to(1, "(= (- 0 1) m)")
        self.comes_to(23, "(+ (* 2 n) (- 5 2))")


class Recs(Worth):
    def test_a_rec(self):
        self.comes_to(NONE, "(rec none)")
        self.comes_to(("pt", (1, 2)), "(rec pt 1 2)")
        self.comes_to(("pt", (9, 11)), "(rec pt (+ n m) (- n m))")
        self.comes_to(("big", (WAY, POINT, 10, NONE)), "(rec big w p n o)")

    def test_a_get_of_each_field(self):
        self.comes_to(3, "(get p x)")
        self.comes_to(4, "(get p y)")
        self.comes_to(WAY, "(get b w)")
        self.comes_to(("pt", (5, 6)), "(get b p)")
        self.comes_to(7, "(get b n)")
        self.comes_to(NONE, "(get b o)")
        self.comes_to(6, "(get (get b p) y)")
        self.comes_to(2, "(get (rec pt 1 2) y)")


class Alts(Worth):
    def test_a_tag(self):
        self.comes_to(("way", "on", POINT), "(tag way on p)")
        self.comes_to(("way", "off", NONE), "(tag way off o)")
        self.comes_to(("way", "by", 11), "(tag way by (+ n 1))")
        self.comes_to(("pick", "w", ("way", "by", 1)), "(tag pick w (tag way by 1))")

    def test_a_case_of_each_tag(self):
        for order in ["(on x (get x y)) (off y 1) (by z (+ z 1))", "(by z (+ z 1)) (off y 1) (on x (get x y))",
                      "(off x 1) (on x (get x y)) (by x (+ x 1))"]:
            for way, value in zip(WAYS, [9, 1, 12]):
                self.comes_to(value, f"(case w {order})", {"w": way})

    def test_the_arms_box_is_the_tags_value(self):
        for way in WAYS:
            term = "(case w (on x (tag way on x)) (off x (tag way off x)) (by x (tag way by x)))"
            self.comes_to(way, term, {"w": way})

    def test_other_boxes_in_arms(self):
        for way, value in zip(WAYS, [18, 10, 21]):
            self.comes_to(value, "(case w (on x (+ n (get x x))) (off x n) (by x (+ x n)))", {"w": way, "n": 10})

    def test_cases_within_cases(self):
        inner = "(case x (on y (get y x)) (off y 1) (by y y))"
        text = f"(case k (w x {inner}) (b z (case (get z w) (on x (get x y)) (off x 2) (by x (* x 2)))))"
        for way, value in zip(WAYS, [8, 1, 11]):
            self.comes_to(value, text, {"k": ("pick", "w", way)})
        for way, value in zip(WAYS, [9, 2, 22]):
            self.comes_to(value, text, {"k": ("pick", "b", ("big", (way, POINT, 1, NONE)))})

    def test_a_case_beside_a_case_with_boxes_of_one_name(self):
        case = "(case {} (on x (get x x)) (off x 1) (by x x))"
        text = "(- " + case.format("v") + " " + case.format("w") + ")"
        self.comes_to(3, text, {"v": WAYS[2], "w": WAYS[0]})
        self.comes_to(WIDE - 10, text, {"v": WAYS[1], "w": WAYS[2]})

    def test_tags_and_boxes_of_the_same_names(self):
        kinds = (("a", "alt", (("a", "num"), ("b", "num"))),)
        self.comes_to(5, "(case b (a a a) (b c (+ c 1)))", {"b": ("a", "a", 5)}, kinds)
        self.comes_to(6, "(case b (a a a) (b c (+ c 1)))", {"b": ("a", "b", 5)}, kinds)


class Ifs(Worth):
    def test_at_nought_and_at_other_numbers(self):
        self.comes_to(2, "(if 0 1 2)")
        self.comes_to(1, "(if 1 1 2)")
        for n in [1, 2, 255, WIDE - 1]:
            self.comes_to(POINT, "(if n p (rec pt 0 0))", {"n": n, "p": POINT})
        self.comes_to(("pt", (0, 0)), "(if n p (rec pt 0 0))", {"n": 0, "p": POINT})

    def test_at_what_comes_to_nought(self):
        self.comes_to(2, "(if (+ m 1) 1 2)")
        self.comes_to(2, "(if (< n 10) 1 2)")
        self.comes_to(1, "(if (= n 10) 1 2)")
        self.comes_to(3, "(if (if 1 0 1) 1 (if 1 3 4))")


class Other(Worth):
    def test_the_box_it(self):
        self.assertEqual(worth(KINDS, ("op", "+", ("box", "it"), ("num", 1)), {"it": 4}), 5)
        self.assertEqual(worth(KINDS, ("get", ("box", "it"), "y"), {"it": POINT}), 4)

    def test_by_the_names_of_its_arguments(self):
        self.assertEqual(worth(kinds=KINDS, term=("box", "a"), boxes={"a": 3}), 3)

    def test_without_kinds(self):
        self.comes_to(7, "(if (< a 3) (+ a 5) 0)", {"a": 2}, ())

    def test_boxes_that_are_not_needed_change_nothing(self):
        self.comes_to(5, "(+ a 1)", {"a": 4, "b": POINT, "c": WAY})

    def test_the_boxes_stay_as_they_were(self):
        self.assertEqual(sorted(VALUES), sorted(BOXES))
        for kind, term in random_terms(21, 200):
            handed = dict(VALUES)
            first = worth(KINDS, term, handed)
            self.assertEqual(list(handed.items()), list(VALUES.items()))
            self.assertEqual(worth(KINDS, term, handed), first)

    def test_what_is_done_to_the_boxes_later_changes_nothing_told(self):
        handed = dict(VALUES)
        told = worth(KINDS, term_of("(rec big w p n o)"), handed)
        handed.clear()
        self.assertEqual(told, ("big", (WAY, POINT, 10, NONE)))
