"""The texts of terms [6], [7], [8]."""

import random
import unittest

from swapstride.bricks import term_of, term_text
from swapstride.errors import BadText

A = ("box", "a")
B = ("box", "b")
ONE = ("num", 1)

# Each form of a term, with its one text.
PAIRS = [
    (("num", 0), "0"),
    (("num", 7), "7"),
    (("num", 10), "10"),
    (("num", 4294967295), "4294967295"),
    (("num", 4294967296), "4294967296"),
    (("num", 9999999999), "9999999999"),
    (A, "a"),
    (("box", "abcdef"), "abcdef"),
    (("op", "+", A, ONE), "(+ a 1)"),
    (("op", "-", ONE, A), "(- 1 a)"),
    (("op", "*", A, B), "(* a b)"),
    (("op", "<", A, B), "(< a b)"),
    (("op", "=", A, B), "(= a b)"),
    (("op", "+", ("op", "-", A, B), ("op", "*", B, A)), "(+ (- a b) (* b a))"),
    (("rec", "k", ()), "(rec k)"),
    (("rec", "k", (A,)), "(rec k a)"),
    (("rec", "k", (A, ONE, B, ("num", 2))), "(rec k a 1 b 2)"),
    (("rec", "k", (A,) * 5), "(rec k a a a a a)"),
    (("rec", "k", (A,) * 199), "(rec k" + " a" * 199 + ")"),
    (("rec", "k", (("rec", "j", ()), A)), "(rec k (rec j) a)"),
    (("get", A, "f"), "(get a f)"),
    (("get", ("get", A, "f"), "g"), "(get (get a f) g)"),
    (("get", ONE, "f"), "(get 1 f)"),
    (("tag", "k", "t", A), "(tag k t a)"),
    (("tag", "k", "t", ("tag", "k", "u", ONE)), "(tag k t (tag k u 1))"),
    (("case", A, (("t", "x", B),)), "(case a (t x b))"),
    (("case", A, (("t", "x", B), ("u", "y", ONE))), "(case a (t x b) (u y 1))"),
    (("case", A, (("t", "x", B),) * 3), "(case a (t x b) (t x b) (t x b))"),
    (("case", A, (("t", "x", B),) * 4), "(case a (t x b) (t x b) (t x b) (t x b))"),
    (("case", ("get", A, "f"), (("t", "x", ("rec", "k", ())),)), "(case (get a f) (t x (rec k)))"),
    (("if", A, B, ONE), "(if a b 1)"),
    (("if", ("if", A, A, A), ("if", B, B, B), ONE), "(if (if a a a) (if b b b) 1)"),
]

# Words of the texts that are names like any others.
WORD_NAMES = ["rec", "alt", "hand", "box", "set", "send", "take", "tell", "go", "if", "end", "get", "tag", "case", "op"]

NO_TERMS = [
    "", " ", "  ", "\n", "()", "( )", "(", ")", ")(", "(()", "())", "(())",
    # Words that are none, and names that are none.
    "num", "it", "A", "aB", "abcdefg", "a1", "1a", "00", "01", "10000000000", "+", "-", "-1", "+1", "1.5", "a,b",
    "_", "~",
    "a\n", "1\n", "\na", "(+ a b)\n", "(+ a\nb)", "(+\na b)", "a\tb", "(+\ta b)",
    # Blanks too many, or too few.
    " a", "a ", " 1", "1 ", " (+ a b)", "(+ a b) ", "( + a b)", "(+  a b)", "(+ a  b)", "(+ a b )", "(+a b)", "(+ ab)",
    "(rec k )", "( rec k)", "(rec  k)", "(rec k  a)", "(rec k a )", "(reck)", "(rec k(rec j))", "(rec k (rec j)a)",
    "(rec k (rec j)(rec j))", "(get (get a f)g)", "(get  a f)", "(get a  f)", "(get a f )", "(get ( get a f) g)",
    "(tag  k t a)", "(tag k  t a)", "(tag k t  a)", "(tag k t a )", "(case  a (t x b))", "(case a  (t x b))",
    "(case a ( t x b))", "(case a (t  x b))", "(case a (t x  b))", "(case a (t x b ))", "(case a (t x b) )",
    "(case a(t x b))", "(case a (t x b)(u x b))", "(case a (t x b)  (u x b))", "(if  a b c)", "(if a  b c)",
    "(if a b  c)", "(if a b c )",
    # Brackets that lack, are too many, or stand round what has none.
    "(+ a b", "+ a b)", "+ a b", "(+ a b))", "((+ a b))", "((+ a b)", "(+ a b)(", "(+ a b)()", "(a)", "(1)", "((a))",
    "a)", "(a", "1)", "a (", "a )", "a (b", "a (+ b", "(+ a b) (rec", "a b)", "1 (rec k", "a b", "a 1", "(+ a b) c",
    "c (+ a b)", "(+ a b) (+ a b)", "(+ (a) b)", "(+ a (b))",
    "(+ (- a b) c", "(+ (- a b c)", "(+ - a b) c)", "(case a t x b)", "(case a ((t x b)))", "(case a (t x b)",
    "(case a (t x (b)))", "(get (a) f)", "(get a (f))", "(tag (k) t a)", "(tag k (t) a)", "(rec (k))", "(rec (k) a)",
    "((rec) k)", "((+) a b)", "(case a ((t) x b))", "(case a (t (x) b))", "(+ a(b)", "(+ a)b)", "(+ a b)c", "a(+ a b)",
    "(+ (rec k a b)", "(+ a (rec k))) (rec k)",
    # Heads that are none.
    "(num 1)", "(box a)", "(op + a b)", "(/ a b)", "(> a b)", "(== a b)", "(<= a b)", "(** a b)", "(+- a b)",
    "(set a b)",
    "(Rec k)", "(recs k)", "(re k)", "(alt k)", "(tags k t a)", "(gets a f)", "(a b c)", "(1 2 3)", "(it a b)", "(end)",
    # Too few or too many within.
    "(+)", "(+ a)", "(+ a b c)", "(rec)", "(get)", "(get a)", "(get a f g)", "(tag)", "(tag k)", "(tag k t)",
    "(tag k t a b)", "(case)", "(case a)", "(if)", "(if a)", "(if a b)", "(if a b c d)", "(case a ())", "(case a (t))",
    "(case a (t x))", "(case a (t x b c))", "(case a" + " (t x b)" * 5 + ")", "(case a" + " (t x b)" * 6 + ")",
    "(case (t x b))", "(case (t x b) (t x b))", "(case a (t x b) c)", "(case a b (t x b))", "(case a b)",
    "(case a abc)", "(case a (t x b) abc)", "(case abc abc)",
    # Where a name must stand.
    "(rec num)", "(rec it)", "(rec 1)", "(rec K)", "(rec abcdefg)", "(rec +)", "(rec num a)", "(rec (rec k))",
    "(get a num)",
    "(get a it)", "(get a 1)", "(get a F)", "(get a (rec k))", "(tag num t a)", "(tag it t a)", "(tag k num a)",
    "(tag k it a)", "(tag 1 t a)", "(tag k 1 a)", "(tag (rec k) t a)", "(tag k (rec k) a)", "(case a (num x b))",
    "(case a (it x b))", "(case a (t num b))", "(case a (t it b))", "(case a (1 x b))", "(case a (t 1 b))",
    "(case a (t (rec k) b))", "(case a (t x b) (u it b))",
    # Terms within that are none.
    "(+ num a)", "(+ a num)", "(+ it a)", "(+ a it)", "(rec k it)", "(rec k a num)", "(rec k 01)", "(get it f)",
    "(get num f)", "(tag k t it)", "(tag k t num)", "(case it (t x b))", "(case a (t x it))", "(case a (t x num))",
    "(case num (t x b))", "(if it b c)", "(if a it c)", "(if a b it)", "(if num b c)", "(if a num c)", "(if a b num)",
    "(+ a 00)", "(+ 10000000000 a)", "(+ a +)", "(+ + +)", "(+ A b)", "(rec k (get a))", "(if a (b c) d)",
]


def names(source):
    return source.choice(WORD_NAMES + ["a", "b", "zz", "abcdef"])


def random_term(source, depth):
    """A term of any form, with at most so many terms over one another."""
    form = source.choice(["num", "box", "op", "rec", "get", "tag", "case", "if"] if depth > 1 else ["num", "box"])
    if form == "num":
        return ("num", source.choice([0, 1, 9, 10, 4294967295, 4294967296, 9999999999]))
    if form == "box":
        return ("box", names(source))
    if form == "op":
        return ("op", source.choice("+-*<="), random_term(source, depth - 1), random_term(source, depth - 1))
    if form == "rec":
        return ("rec", names(source), tuple(random_term(source, depth - 1) for _ in range(source.randrange(6))))
    if form == "get":
        return ("get", random_term(source, depth - 1), names(source))
    if form == "tag":
        return ("tag", names(source), names(source), random_term(source, depth - 1))
    if form == "case":
        arms = [(names(source), names(source), random_term(source, depth - 1)) for _ in range(source.randint(1, 4))]
        return ("case", random_term(source, depth - 1), tuple(arms))
    return ("if",) + tuple(random_term(source, depth - 1) for _ in range(3))


def one_sign_off(text, signs):
    """Every text that one sign more, less or other makes of a text."""
    for k in range(len(text) + 1):
        for sign in signs:
            yield text[:k] + sign + text[k:]
            if k < len(text):
                yield text[:k] + sign + text[k + 1:]
        if k < len(text):
            yield text[:k] + text[k + 1:]


class Refusing(unittest.TestCase):
    def refused(self, text):
        with self.subTest(text=text[:60]):
            with self.assertRaises(BadText) as seen:
                term_of(text)
            self.assertEqual(seen.exception.at, 0)


class ThereAndBack(unittest.TestCase):
    def both_ways(self, term, text):
        with self.subTest(text=text[:60]):
            self.assertEqual(term_text(term), text)
            self.assertEqual(term_of(text), term)
            # Asked again with the same, the same is told.
            self.assertEqual(term_text(term), text)
            self.assertEqual(term_of(text), term)

    def test_each_form(self):
        for term, text in PAIRS:
            self.both_ways(term, text)

    def test_each_form_within_each_other(self):
        for term, text in PAIRS:
            self.both_ways(("op", "<", term, A), f"(< {text} a)")
            self.both_ways(("op", "<", A, term), f"(< a {text})")
            self.both_ways(("rec", "k", (term, A, term)), f"(rec k {text} a {text})")
            self.both_ways(("get", term, "f"), f"(get {text} f)")
            self.both_ways(("tag", "k", "t", term), f"(tag k t {text})")
            self.both_ways(("case", term, (("t", "x", A),)), f"(case {text} (t x a))")
            self.both_ways(("case", A, (("t", "x", term), ("u", "y", term))), f"(case a (t x {text}) (u y {text}))")
            self.both_ways(("if", term, A, B), f"(if {text} a b)")
            self.both_ways(("if", A, term, B), f"(if a {text} b)")
            self.both_ways(("if", A, B, term), f"(if a b {text})")

    def test_words_of_the_texts_as_names(self):
        for w in WORD_NAMES:
            box = ("box", w)
            self.both_ways(box, w)
            self.both_ways(("op", "+", box, box), f"(+ {w} {w})")
            self.both_ways(("rec", w, ()), f"(rec {w})")
            self.both_ways(("rec", w, (box, box)), f"(rec {w} {w} {w})")
            self.both_ways(("get", box, w), f"(get {w} {w})")
            self.both_ways(("tag", w, w, box), f"(tag {w} {w} {w})")
            self.both_ways(("case", box, ((w, w, box), (w, w, box))), f"(case {w} ({w} {w} {w}) ({w} {w} {w}))")
            self.both_ways(("if", box, box, box), f"(if {w} {w} {w})")

    def test_two_hundred_terms_in_one(self):
        fives = (("op", "+", A, ("op", "-", ONE, B)),) * 39
        self.both_ways(("rec", "k", fives), "(rec k" + " (+ a (- 1 b))" * 39 + ")")

    def test_many_terms_of_chance(self):
        source = random.Random(20)
        for _ in range(400):
            term = random_term(source, 5)
            self.assertEqual(term_of(term_text(term)), term)


class NoTerms(Refusing):
    def test_each_is_refused(self):
        for text in NO_TERMS:
            self.refused(text)

    def test_refused_within_others_too(self):
        # Within another one: what is two terms, or none, outside may be well within a rec's term.
        for text in ["num", "it", "01", "(+ a)", "(rec it)", "(case a)", "( + a b)", "(+ a b )", "(get a 1)"]:
            self.refused(f"(+ {text} a)")
            self.refused(f"(+ a {text})")
            self.refused(f"(rec k {text})")
            self.refused(f"(get {text} f)")
            self.refused(f"(tag k t {text})")
            self.refused(f"(case {text} (t x a))")
            self.refused(f"(case a (t x {text}))")
            self.refused(f"(if a b {text})")

    def test_a_blank_more_at_each_place(self):
        for term, text in PAIRS:
            for k in range(len(text) + 1):
                ahead = text[:k][-1:]
                behind = text[k:][:1]
                if ahead in ("", " ", "(") or behind in ("", " ", ")"):
                    self.refused(text[:k] + " " + text[k:])

    def test_a_bracket_more_or_less_at_each_place(self):
        for term, text in PAIRS:
            for k in range(len(text) + 1):
                self.refused(text[:k] + "(" + text[k:])
                self.refused(text[:k] + ")" + text[k:])
                if text[k:k + 1] in ("(", ")"):
                    self.refused(text[:k] + text[k + 1:])

    def test_a_line_feed_at_each_place(self):
        for term, text in PAIRS:
            for k in range(len(text) + 1):
                self.refused(text[:k] + "\n" + text[k:])
                self.refused(text[:k] + "\n" + text[k + 1:])

    def test_what_is_read_is_the_one_text_of_its_term(self):
        for term, text in PAIRS:
            for other in one_sign_off(text[:120], " ()a0+T"):
                try:
                    found = term_of(other)
                except BadText as seen:
                    self.assertEqual(seen.at, 0)
                else:
                    self.assertEqual(term_text(found), other)


class Deep(Refusing):
    def test_twenty_are_let_by_and_more_are_not(self):
        for open_part, close_part in [("(+ 1 ", ")"), ("(- ", " 1)"), ("(rec k ", ")"), ("(get ", " f)"),
                                      ("(tag k t ", ")"), ("(if ", " b c)"), ("(if a ", " c)"), ("(if a b ", ")")]:
            text = open_part * 20 + "a" + close_part * 20
            with self.subTest(text=text[:30]):
                self.assertEqual(term_text(term_of(text)), text)
            self.refused(open_part * 21 + "a" + close_part * 21)
            self.refused(open_part * 22 + "a" + close_part * 22)

    def test_a_rec_without_terms_counts(self):
        text = "(+ a " * 19 + "(rec k)" + ")" * 19
        self.assertEqual(term_text(term_of(text)), text)
        self.refused("(+ a " * 20 + "(rec k)" + ")" * 20)

    def test_arms_count(self):
        text = "(case a (t x " * 10 + "a" + "))" * 10
        self.assertEqual(term_text(term_of(text)), text)
        self.refused("(case a (t x " * 10 + "(rec k)" + "))" * 10)
        # The case's own first term is within one bracket alone, its arms within two.
        text = "(case " * 19 + "a" + " (t x b))" * 19
        self.assertEqual(term_text(term_of(text)), text)
        self.refused("(case " * 20 + "a" + " (t x b))" * 20)
        self.refused("(+ 1 " * 19 + "(case a (t x b))" + ")" * 19)

    def test_brackets_beside_one_another_do_not_count(self):
        text = "(rec k" + " (rec j (rec j))" * 60 + ")"
        self.assertEqual(term_text(term_of(text)), text)

    def test_depth_behind_a_shallow_part(self):
        deep = "(+ 1 " * 20 + "a" + ")" * 20
        self.refused(f"(+ a {deep})")
        self.refused(f"(+ {deep} a)")

    def test_very_long_ones_are_refused_likewise(self):
        self.refused("(" * 100000)
        self.refused(")" * 100000)
        self.refused("(+ 1 " * 20000)
        self.refused("(+ 1 " * 10000 + "a" + ")" * 10000)
        self.refused("a" + ")" * 99999)
        self.refused(" " * 100000)
        self.refused("a" * 100000)
        self.refused("1" * 100000)
