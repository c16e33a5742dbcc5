"""Terms looked at: kinds, boxes, noughts [2], [4], [6], [11], [19]."""

import random
import unittest

from swapstride.bricks import term_of
from swapstride.errors import Lacks, NoCount, NoName, SwapError, Twice, WrongKind
from swapstride.terms import boxes_in, kind_of, nought_term
from swapstride.values import is_of, nought
from swapstride.words import WIDE
from swapstride.worth import worth
from tests.test_kinds import KINDS

BOXES = {"n": "num", "m": "num", "o": "none", "p": "pt", "w": "way", "b": "big", "k": "pick"}

# Texts of terms that are let by with BOXES at hand, by their kinds.
RIGHT = {
    "num": [
        "0", "1", "4294967295", "n", "(+ n 1)", "(- n m)", "(* 2 3)", "(< n m)", "(= n 0)", "(+ (- n m) (* n (< 1 m)))",
        "(get p x)", "(get p y)", "(get (get b p) x)", "(get b n)", "(if n 1 2)", "(if (< n m) n (if m 1 2))",
        "(case w (on x 1) (off x 2) (by x 3))", "(case w (on x (get x y)) (off x n) (by x x))",
        "(case w (by q q) (on q (get q x)) (off q 0))", "(case w (off q 0) (by r r) (on s (get s x)))",
        "(case (get b w) (on x 1) (off y 2) (by z z))", "(get (rec pt 1 2) x)",
        "(case k (w x (case x (on y (get y x)) (off y 0) (by y y))) (b x (get x n)))",
        "(case (case k (w x x) (b x (get x w))) (on x (get x y)) (off x 0) (by x x))",
    ],
    "none": ["o", "(rec none)", "(get b o)", "(if n o (rec none))", "(case w (on x o) (off x x) (by x (rec none)))"],
    "pt": [
        "p", "(rec pt 0 1)", "(rec pt n (+ n m))", "(rec pt (get p y) (get p x))", "(get b p)", "(if n p (rec pt n n))",
        "(case w (on x x) (off x p) (by x (rec pt x x)))",
    ],
    "way": [
        "w", "(tag way on p)", "(tag way off o)", "(tag way by n)", "(tag way on (rec pt 1 2))", "(get b w)",
        "(tag way off (rec none))", "(if 0 w (tag way by 0))", "(case k (w x x) (b x (get x w)))",
        "(case w (on x (tag way on x)) (off x (tag way off x)) (by x (tag way by x)))",
    ],
    "big": ["b", "(rec big w p n o)", "(rec big (tag way by 1) (rec pt 1 2) 3 (rec none))", "(if (get b n) b b)"],
    "pick": ["k", "(tag pick w w)", "(tag pick b b)", "(tag pick w (tag way on p))", "(tag pick b (rec big w p n o))"],
}

# Texts of terms with one fault each, by their refusals.
WRONG = {
    WrongKind: [
        "4294967296", "4294967297", "9999999999",
        "(+ p 1)", "(+ 1 p)", "(- w n)", "(* n o)", "(< p p)", "(= p p)", "(= w n)", "(= n b)", "(+ (rec pt 1 2) 1)",
        "(+ 1 (tag way by 1))", "(+ 1 4294967296)", "(< 4294967296 1)",
        "(rec way)", "(rec way p)", "(rec way p o n)", "(rec pick w b)",
        "(rec pt p 1)", "(rec pt 1 p)", "(rec pt o o)", "(rec big p w n o)", "(rec big w p n n)", "(rec big w p o o)",
        "(rec big n p n o)", "(rec pt 4294967296 1)",
        "(get n x)", "(get 1 x)", "(get w on)", "(get k w)", "(get (+ n m) x)", "(get (tag way on p) x)",
        "(tag pt x 1)", "(tag none x o)", "(tag big w w)",
        "(tag way on n)", "(tag way on o)", "(tag way off p)", "(tag way by p)", "(tag way by w)", "(tag pick w b)",
        "(tag way by 4294967296)",
        "(case n (on x 1) (off x 2) (by x 3))", "(case 1 (x x x))", "(case p (x a a) (y c c))", "(case o (on x 1))",
        "(case (get p x) (on x 1))", "(case b (w x 1) (p x 1) (n x 1) (o x 1))",
        "(case w (on x 1) (off x 2) (by x p))", "(case w (on x 1) (off x x) (by x x))",
        "(case w (on x x) (off x x) (by x x))",
        "(case w (on x p) (off x p) (by x x))", "(case w (on x o) (off x 1) (by x 1))",
        "(case w (on x (+ x 1)) (off x 1) (by x 1))", "(case w (on x 1) (off x (+ x 1)) (by x 1))",
        "(case w (on x 1) (off x 2) (by x (get x x)))",
        "(if p 1 2)", "(if w w w)", "(if o o o)", "(if (rec none) 1 2)", "(if n 1 p)", "(if n p 1)", "(if 0 w k)",
        "(if n p o)", "(if 1 b (rec none))", "(if 4294967296 1 2)", "(if 1 4294967296 2)", "(if 1 2 4294967296)",
    ],
    NoName: [
        "z", "nums", "pt", "on", "(+ z 1)", "(+ 1 z)", "(rec zz)", "(rec zz 1 2)", "(rec n)", "(rec x 1)",
        "(rec on p)", "(rec rec)", "(rec pt z 1)", "(rec pt 1 z)",
        "(get p z)", "(get p n)", "(get p pt)", "(get b x)", "(get o x)", "(get z x)", "(get (get b p) w)",
        "(tag zz on p)", "(tag n on p)", "(tag on on p)", "(tag way no p)", "(tag way w w)", "(tag pick on p)",
        "(tag way way n)", "(tag way by z)",
        "(case z (on x 1) (off x 2) (by x 3))", "(case w (on x 1) (off x 2) (by x 3) (no x 4))",
        "(case w (no x 4) (on x 1) (off x 2) (by x 3))", "(case w (on x 1) (off x 2) (way x 4) (by x 3))",
        "(case w (on x 1) (off x 2) (by x y))", "(case w (on x 1) (off y x) (by x x))",
        "(case w (on x 1) (off y 2) (by z x))", "(case x (on x 1) (off x 2) (by x 3))",
        "(+ (case w (on x 1) (off x 2) (by x x)) x)", "(+ x (case w (on x 1) (off x 2) (by x x)))",
        "(case (tag way by x) (on x 1) (off x 2) (by x x))",
        "(if (case w (on x 1) (off x 2) (by x x)) 1 x)",
        "(case k (w x (case x (on y 1) (off y 2) (by y y))) (b x y))",
        "(if z 1 2)", "(if 1 z 2)", "(if 1 2 z)",
    ],
    NoCount: [
        "(rec none 1)", "(rec none o)", "(rec none n n n n)", "(rec pt)", "(rec pt 1)", "(rec pt 1 2 3)",
        "(rec pt 1 2 3 4 5 6)", "(rec big w p n)", "(rec big w p n o o)",
    ],
    Twice: [
        "(case w (on x 1) (off x 2) (by x 3) (by x 3))", "(case w (on x 1) (on x 1) (off x 2) (by x 3))",
        "(case w (on x 1) (off x 2) (by x 3) (on y 1))",
        "(case w (on n 1) (off x 2) (by x 3))", "(case w (on x 1) (off x 2) (by n n))",
        "(case w (on w 1) (off x 2) (by x 3))",
        "(case k (w x (case x (on x 1) (off y 2) (by z 3))) (b x 1))",
        "(case k (w x 1) (b x (case (get x w) (on y 1) (off x 2) (by z 3))))",
        "(case w (on x (case w (on y 1) (off y 2) (by x 3))) (off x 2) (by x 3))",
    ],
    Lacks: [
        "(case w (on x 1))", "(case w (on x 1) (off x 2))", "(case w (off x 2) (by x 3))", "(case w (by x 3) (on x 1))",
        "(case k (b x 1))", "(case k (w x 1))", "(case (tag way by n) (by x x))",
    ],
}


def with_inner(term):
    """Right terms, but for one term within each of them, at each place where one may stand."""
    box = ("box", "p")
    arms = (("on", "aa", ("num", 1)), ("off", "aa", ("num", 1)), ("by", "aa", ("num", 1)))
    return [
        ("op", "+", term, ("num", 1)),
        ("op", "<", ("num", 1), term),
        ("rec", "pt", (term, ("num", 1))),
        ("rec", "pt", (("num", 1), term)),
        ("rec", "big", (("box", "w"), box, term, ("box", "o"))),
        ("get", term, "x"),
        ("tag", "way", "by", term),
        ("case", term, arms),
        ("case", ("box", "w"), (("on", "aa", term),) + arms[1:]),
        ("case", ("box", "w"), arms[:1] + (("off", "aa", term),) + arms[2:]),
        ("case", ("box", "w"), arms[:2] + (("by", "aa", term),)),
        ("if", term, box, box),
        ("if", ("num", 0), term, ("num", 1)),
        ("if", ("num", 1), ("num", 1), term),
    ]


def random_of(source, kind, boxes, depth, kinds=KINDS):
    """A term of a kind, of any form, with at most so many terms over one another."""
    forms = ["make", "make", "box"] if depth <= 1 else ["make", "box", "op", "get", "case", "if"]
    form = source.choice(forms)
    if form == "box":
        fitting = [x for x, each in boxes.items() if each == kind]
        return ("box", source.choice(fitting)) if fitting else random_of(source, kind, boxes, depth, kinds)
    if form == "op" and kind == "num":
        inner = [random_of(source, "num", boxes, depth - 1, kinds) for _ in range(2)]
        return ("op", source.choice("+-*<="), inner[0], inner[1])
    if form == "get":
        fields = [(name, f) for name, sort, parts in kinds if sort == "rec" for f, each in parts if each == kind]
        if fields:
            name, f = source.choice(fields)
            return ("get", random_of(source, name, boxes, depth - 1, kinds), f)
    if form == "case":
        name, sort, parts = source.choice([each for each in kinds if each[1] == "alt"])
        arms = []
        for tag, inner in source.sample(parts, len(parts)):
            x = source.choice([each for each in ("q", "r", "s", "t", "u", "v") if each not in boxes])
            arms.append((tag, x, random_of(source, kind, {**boxes, x: inner}, depth - 1, kinds)))
        return ("case", random_of(source, name, boxes, depth - 1, kinds), tuple(arms))
    if form == "if":
        inner = [random_of(source, each, boxes, depth - 1, kinds) for each in ("num", kind, kind)]
        return ("if", inner[0], inner[1], inner[2])
    return random_made(source, kind, boxes, depth, kinds)


def random_made(source, kind, boxes, depth, kinds=KINDS):
    """A number, a rec or a tag of a kind."""
    if kind == "num":
        return ("num", source.choice([0, 1, 2, WIDE - 1, source.randrange(WIDE)]))
    sort, parts = [each[1:] for each in kinds if each[0] == kind][0]
    if sort == "rec":
        return ("rec", kind, tuple(random_of(source, inner, boxes, depth - 1, kinds) for f, inner in parts))
    tag, inner = source.choice(parts)
    return ("tag", kind, tag, random_of(source, inner, boxes, depth - 1, kinds))


def random_terms(seed, many):
    """Some terms that are let by with BOXES at hand, each with its kind."""
    source = random.Random(seed)
    for _ in range(many):
        kind = source.choice(["num"] + [each[0] for each in KINDS])
        yield kind, random_of(source, kind, dict(BOXES), 4)


class Looking(unittest.TestCase):
    def lets_by(self, kind, term, boxes=BOXES, kinds=KINDS):
        with self.subTest(term=term):
            handed = dict(boxes)
            self.assertEqual(kind_of(kinds, term, handed), kind)
            self.assertEqual(kind_of(kinds, term, handed), kind)
            self.assertEqual(list(handed.items()), list(boxes.items()))

    def refused(self, refusal, term, boxes=BOXES, kinds=KINDS):
        with self.subTest(term=term):
            handed = dict(boxes)
            for _ in range(2):
                with self.assertRaises(SwapError) as seen:
                    kind_of(kinds, term, handed)
                self.assertIs(type(seen.exception), refusal)
            self.assertEqual(list(handed.items()), list(boxes.items()))


class Kinds(Looking):
    def test_each_form_let_by(self):
        for kind, texts in RIGHT.items():
            for text in texts:
                self.lets_by(kind, term_of(text))

    def test_numbers_at_the_bound(self):
        for n in [0, 1, WIDE - 1]:
            self.lets_by("num", ("num", n), {}, ())
        for n in [WIDE, WIDE + 1, 9999999999]:
            self.refused(WrongKind, ("num", n), {}, ())

    def test_boxes_of_each_kind(self):
        for x, kind in BOXES.items():
            self.lets_by(kind, ("box", x))
            self.refused(NoName, ("box", x), {other: BOXES[other] for other in BOXES if other != x})
            self.refused(NoName, ("box", x), {})

    def test_the_box_it(self):
        it = ("box", "it")
        self.lets_by("num", it, {"it": "num"})
        self.lets_by("num", ("get", it, "x"), {"it": "pt"})
        self.lets_by("pick", ("tag", "pick", "w", it), {"it": "way"})
        arms = (("on", "x", ("get", ("box", "x"), "x")), ("off", "y", ("num", 0)), ("by", "z", ("box", "z")))
        self.lets_by("num", ("case", it, arms), {"it": "way"})
        self.refused(NoName, it)
        self.refused(NoName, it, {})
        self.refused(WrongKind, ("op", "+", it, it), {"it": "pt"})

    def test_boxes_named_like_kinds_fields_tags_and_words(self):
        boxes = {"pt": "way", "x": "pt", "on": "num", "way": "num", "rec": "pt", "case": "num", "box": "none"}
        for x, kind in boxes.items():
            self.lets_by(kind, ("box", x), boxes)
        self.lets_by("num", term_of("(get x x)"), boxes)
        self.lets_by("num", term_of("(get (rec pt on way) x)"), boxes)
        self.lets_by("way", term_of("(tag way on x)"), boxes)
        self.lets_by("way", term_of("(tag way by way)"), boxes)
        self.lets_by("num", term_of("(case pt (on big (get big x)) (off off 0) (by by by))"), boxes)
        self.lets_by("pt", term_of("(case pt (on pick pick) (off none rec) (by y (rec pt y case)))"), boxes)
        self.refused(Twice, term_of("(case pt (on on 1) (off off 0) (by by by))"), boxes)
        self.refused(Twice, term_of("(case pt (on pt 1) (off off 0) (by by by))"), boxes)

    def test_kinds_and_parts_named_like_words(self):
        kinds = (("rec", "rec", (("rec", "num"), ("case", "num"))), ("case", "alt", (("if", "rec"), ("get", "num"))))
        self.lets_by("rec", term_of("(rec rec 1 2)"), {}, kinds)
        self.lets_by("case", term_of("(tag case if (rec rec 1 2))"), {}, kinds)
        self.lets_by("num", term_of("(case (tag case get 1) (if tag (get tag case)) (get box box))"), {}, kinds)

    def test_arms_in_any_order(self):
        arms = [("on", "x", term_of("(get x x)")), ("off", "x", term_of("0")), ("by", "x", term_of("x"))]
        for order in [(0, 1, 2), (0, 2, 1), (1, 0, 2), (1, 2, 0), (2, 0, 1), (2, 1, 0)]:
            self.lets_by("num", ("case", ("box", "w"), tuple(arms[k] for k in order)))

    def test_an_alt_of_one_tag(self):
        kinds = (("one", "alt", (("a", "num"),)),)
        self.lets_by("one", term_of("(tag one a 5)"), {}, kinds)
        self.lets_by("num", term_of("(case (tag one a 5) (a a a))"), {}, kinds)
        self.refused(NoName, term_of("(case (tag one a 5) (a a a) (b a a))"), {}, kinds)

    def test_two_kinds_of_the_same_parts_are_not_the_same(self):
        kinds = (("a", "rec", (("x", "num"),)), ("b", "rec", (("x", "num"),)), ("c", "alt", (("x", "a"),)))
        self.lets_by("c", term_of("(tag c x (rec a 1))"), {}, kinds)
        self.refused(WrongKind, term_of("(tag c x (rec b 1))"), {}, kinds)
        self.refused(WrongKind, term_of("(if 1 (rec a 1) (rec b 1))"), {}, kinds)

    def test_without_kinds(self):
        self.lets_by("num", term_of("(if (< a 1) (+ a a) 3)"), {"a": "num"}, ())
        self.refused(NoName, term_of("(rec a)"), {"a": "num"}, ())
        self.refused(NoName, term_of("(tag a a a)"), {"a": "num"}, ())
        self.refused(WrongKind, term_of("(get a a)"), {"a": "num"}, ())
        self.refused(WrongKind, term_of("(case a (a a a))"), {"a": "num"}, ())

    def test_by_the_names_of_its_arguments(self):
        self.assertEqual(kind_of(kinds=KINDS, term=("box", "p"), boxes=BOXES), "pt")

    def test_terms_of_chance(self):
        for kind, term in random_terms(11, 300):
            self.lets_by(kind, term)

    def test_twenty_deep(self):
        self.lets_by("num", term_of("(+ 1 " * 20 + "n" + ")" * 20))
        text = "n"
        for k in range(10):
            x = "abcdefghij"[k] * 2
            text = f"(case w (on {x} {text}) (off {x} 0) (by {x} {x}))"
        self.lets_by("num", term_of(text))


class Refused(Looking):
    def test_each_refusal_by_itself(self):
        for refusal, texts in WRONG.items():
            for text in texts:
                self.refused(refusal, term_of(text))

    def test_each_refusal_within_others(self):
        for refusal, texts in WRONG.items():
            for text in texts:
                for term in with_inner(term_of(text)):
                    self.refused(refusal, term)

    def test_each_refusal_deep_within(self):
        for refusal, texts in WRONG.items():
            for text in texts[:6]:
                for term in with_inner(("op", "*", ("if", ("num", 1), term_of(text), ("num", 1)), ("num", 2))):
                    self.refused(refusal, ("tag", "way", "by", ("get", ("rec", "pt", (term, ("num", 1))), "y")))

    def test_the_wraps_themselves_are_right(self):
        fitting = {"num": ("num", 1), "pt": ("box", "p"), "way": ("box", "w")}
        for place, kind in enumerate(["num"] * 5 + ["pt", "num", "way"] + ["num"] * 6):
            term = with_inner(fitting[kind])[place]
            with self.subTest(term=term):
                self.assertIn(kind_of(KINDS, term, BOXES), ["num", "pt", "way", "big"])

    def test_what_is_no_alt_is_told_ahead_of_arms(self):
        for text in ["(case n (no n z))", "(case p (on p z) (on x 9999999999))", "(case 3 (x x p) (x n (+ p p)))",
                     "(case b (w b 1) (w b p))", "(case (+ n m) (on x (rec zz)) (on x (rec pt)))"]:
            self.refused(WrongKind, term_of(text))

    def test_an_arms_box_that_is_at_hand_already(self):
        for x in BOXES:
            for place in range(3):
                arms = [("on", "x", ("num", 1)), ("off", "x", ("num", 1)), ("by", "x", ("num", 1))]
                arms[place] = (arms[place][0], x, ("num", 1))
                self.refused(Twice, ("case", ("box", "w"), tuple(arms)))
                # The very same term where that box isn't at hand.
                made = ("tag", "way", "by", ("num", 1))
                self.lets_by("num", ("case", made, tuple(arms)), {other: BOXES[other] for other in BOXES if other != x})

    def test_an_arms_box_is_no_more_at_hand_behind_its_case(self):
        case = "(case w (on x 1) (off y 2) (by z z))"
        self.lets_by("num", term_of(f"(+ {case} {case})"))
        for x in "xyz":
            self.refused(NoName, term_of(f"(+ {case} {x})"))
            self.refused(NoName, term_of(f"(rec pt {case} {x})"))
            self.refused(NoName, term_of(f"(if {case} 1 {x})"))


class Boxes(unittest.TestCase):
    def tells(self, text, names):
        with self.subTest(text=text):
            term = term_of(text)
            self.assertEqual(boxes_in(term), names)
            self.assertIs(type(boxes_in(term)), list)
            self.assertEqual(boxes_in(term=term), names)

    def test_none(self):
        for text in ["0", "(+ 1 2)", "(rec k)", "(rec k 1 (rec j))", "(get (rec k) a)", "(tag k t 1)", "(if 1 2 3)"]:
            self.tells(text, [])

    def test_one_box_several_times(self):
        self.tells("a", ["a"])
        self.tells("(+ a a)", ["a"])
        self.tells("(rec k a (get a a) (if a a (tag a a a)))", ["a"])

    def test_each_place_sorted(self):
        self.tells("(+ b a)", ["a", "b"])
        self.tells("(rec k d c b a)", ["a", "b", "c", "d"])
        self.tells("(get a f)", ["a"])
        self.tells("(tag k t a)", ["a"])
        self.tells("(if c b a)", ["a", "b", "c"])
        self.tells("(if (+ z y) (rec k x (get w f)) (tag k t (- b aa)))", ["aa", "b", "w", "x", "y", "z"])
        self.tells("(case c (t x b) (u y a))", ["a", "b", "c"])
        self.tells("(+ ab (+ b (+ a aa)))", ["a", "aa", "ab", "b"])

    def test_names_of_kinds_fields_and_tags_are_none(self):
        self.tells("(rec k (get (tag j t a) f))", ["a"])
        self.tells("(case (tag k t 1) (t x 2))", [])

    def test_boxes_of_arms(self):
        self.tells("(case a (t x x))", ["a"])
        self.tells("(case a (t x x) (u x x))", ["a"])
        self.tells("(case a (t x (+ x y)) (u y (+ y z)))", ["a", "y", "z"])
        self.tells("(case a (t x 1) (u y x))", ["a", "x"])
        self.tells("(case a (t x y) (u y x))", ["a", "x", "y"])

    def test_a_box_of_an_arms_name_outside_of_it(self):
        self.tells("(case x (t x x))", ["x"])
        self.tells("(+ x (case a (t x x)))", ["a", "x"])
        self.tells("(+ (case a (t x x)) x)", ["a", "x"])
        self.tells("(case (case a (t x x)) (t y y))", ["a"])
        self.tells("(case (case a (t x y)) (t y x))", ["a", "x", "y"])

    def test_arms_within_arms(self):
        self.tells("(case a (t x (case x (u y (+ x y)))))", ["a"])
        self.tells("(case a (t x (case y (u y (+ x y)))))", ["a", "y"])
        self.tells("(case a (t x (case b (u x x))))", ["a", "b"])
        self.tells("(case a (t x (+ x (case b (u x x)))) (u z x))", ["a", "b", "x"])

    def test_the_box_it(self):
        self.assertEqual(boxes_in(("box", "it")), ["it"])
        term = ("op", "+", ("box", "j"), ("op", "-", ("box", "it"), ("box", "a")))
        self.assertEqual(boxes_in(term), ["a", "it", "j"])

    def test_the_list_told_is_the_askers_own(self):
        for text, names in [("a", ["a"]), ("(+ b a)", ["a", "b"]), ("1", []), ("(case c (t x b))", ["b", "c"])]:
            term = term_of(text)
            told = boxes_in(term)
            told.append("more")
            told.reverse()
            self.assertEqual(boxes_in(term), names)

    def test_they_are_just_what_a_term_needs(self):
        for kind, term in random_terms(12, 200):
            told = boxes_in(term)
            with self.subTest(term=term):
                self.assertEqual(told, sorted(set(told)))
                self.assertEqual(kind_of(KINDS, term, {x: BOXES[x] for x in told}), kind)
                for lost in told:
                    with self.assertRaises(NoName):
                        kind_of(KINDS, term, {x: BOXES[x] for x in told if x != lost})


class Noughts(unittest.TestCase):
    def test_each_kind(self):
        zero = ("num", 0)
        point = ("rec", "pt", (zero, zero))
        way = ("tag", "way", "on", point)
        told = {"num": zero, "none": ("rec", "none", ()), "pt": point, "way": way,
                "big": ("rec", "big", (way, point, zero, ("rec", "none", ()))), "pick": ("tag", "pick", "w", way)}
        for kind, term in told.items():
            with self.subTest(kind=kind):
                self.assertEqual(nought_term(KINDS, kind), term)
                self.assertEqual(nought_term(kinds=KINDS, kind=kind), term)
                self.assertEqual(kind_of(KINDS, nought_term(KINDS, kind), {}), kind)
                self.assertEqual(worth(KINDS, nought_term(KINDS, kind), {}), nought(KINDS, kind))
                self.assertEqual(boxes_in(nought_term(KINDS, kind)), [])

    def test_num_without_kinds(self):
        self.assertEqual(nought_term((), "num"), ("num", 0))

    def test_alts_by_their_first_tag(self):
        kinds = KINDS + (("a", "alt", (("z", "num"), ("b", "pt"))), ("b", "alt", (("y", "a"), ("a", "num"))))
        self.assertEqual(nought_term(kinds, "a"), ("tag", "a", "z", ("num", 0)))
        self.assertEqual(nought_term(kinds, "b"), ("tag", "b", "y", ("tag", "a", "z", ("num", 0))))


class Promise(unittest.TestCase):
    def test_a_value_is_of_its_terms_kind(self):
        source = random.Random(13)
        for kind, term in random_terms(14, 300):
            values = {x: worth(KINDS, random_of(source, each, {}, 2), {}) for x, each in BOXES.items()}
            with self.subTest(term=term):
                self.assertIs(is_of(KINDS, kind, worth(KINDS, term, values)), True)
