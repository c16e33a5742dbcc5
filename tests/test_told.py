"""The texts of told ways [2], [7], [8], [16], [21], [38]."""

import copy
import random
import unittest

from swapstride.bricks import term_text
from swapstride.errors import BadText, SwapError
from swapstride.overs import Over
from swapstride.told import read_told, told_shown
from tests.chance import right_over
from tests.test_bricks import NO_TERMS, PAIRS, WORD_NAMES, names, one_sign_off, random_term
from tests.test_overs import fields_of

A = ("box", "a")
IT = ("box", "it")

# Each row of a kind, with what it tells.
WAY_ROWS = [
    ("way k j a", "k", ("j", A)),
    ("way k k 0", "k", ("k", ("num", 0))),
    ("way k num a", "k", ("num", A)),
    ("way k num it", "k", ("num", IT)),
    ("way abcdef ghijkl 9999999999", "abcdef", ("ghijkl", ("num", 9999999999))),
    ("way way way way", "way", ("way", ("box", "way"))),
    ("way ways ways (rec ways)", "ways", ("ways", ("rec", "ways", ()))),
    ("way k j (+ a 1)", "k", ("j", ("op", "+", A, ("num", 1)))),
    ("way k j (rec j a (get it f))", "k", ("j", ("rec", "j", (A, ("get", IT, "f"))))),
    ("ways k j (t a)", "k", ("j", (("t", A),))),
    ("ways k num (t it)", "k", ("num", (("t", IT),))),
    ("ways k j (t it) (u 1)", "k", ("j", (("t", IT), ("u", ("num", 1))))),
    ("ways k j (t a) (u a) (v a)", "k", ("j", (("t", A), ("u", A), ("v", A)))),
    ("ways k j (t a) (u a) (v a) (w a)", "k", ("j", (("t", A), ("u", A), ("v", A), ("w", A)))),
    ("ways k j (t a) (t a)", "k", ("j", (("t", A), ("t", A)))),
    ("ways ways ways (ways ways)", "ways", ("ways", (("ways", ("box", "ways")),))),
    ("ways k j (rec (rec k)) (tag (tag j t it))", "k",
     ("j", (("rec", ("rec", "k", ())), ("tag", ("tag", "j", "t", IT))))),
    ("ways k j (if (if it a 1))", "k", ("j", (("if", ("if", IT, A, ("num", 1))),))),
]

PLACE_ROWS = [
    ("place h l m", ("h", "l"), "m"),
    ("place h l l", ("h", "l"), "l"),
    ("place place place place", ("place", "place"), "place"),
    ("place abcdef ghijkl mnopqr", ("abcdef", "ghijkl"), "mnopqr"),
]

WITH_ROWS = [
    ("with x a", ("x", A)),
    ("with x 0", ("x", ("num", 0))),
    ("with x it", ("x", IT)),
    ("with with with", ("with", ("box", "with"))),
    ("with abcdef (if a b it)", ("abcdef", ("if", A, ("box", "b"), IT))),
    ("with x (rec k)", ("x", ("rec", "k", ()))),
    ("with x (case it (t y (+ it y)))", ("x", ("case", IT, (("t", "y", ("op", "+", IT, ("box", "y"))),)))),
]

# Rows that are none, wherever they stand.
NO_ROWS = [
    "", " ", "x", "0", "it", "num", "(", ")", "()", "(way k j a)", "rec k", "alt k a num", "hand h", "box a num", "end",
    "set x a", "take l c a", "channel c h g num", "~",
    # Ways of recs.
    "way", "way ", "way k", "way k j", "way k j ", "way k j a b", "way k j a 1", "way k j (a)", "way k j num",
    "way num j a", "way it j a", "way K j a", "way 1 j a", "way abcdefg j a", "way k it a", "way k J a", "way k 1 a",
    "way k abcdefg a", "way (k) j a", "way k (j) a", "way k j (t a)", "way k j (t a) (u a)", "way k j (+ a b",
    "way k j + a b)", "way k j (+ a b) c", "way k j (+ a b))", "way k j 01", "way k j 10000000000", "way k j A",
    " way k j a", "way  k j a", "way k  j a", "way k j  a", "way k j a ", "Way k j a", "wayk j a", "way k j ( + a b)",
    "way k j (rec it)", "way k j (get a it)", "way k j (tag it t a)", "way k j (tag k it a)",
    "way k j (case a (it x a))",
    "way k j (case a (t it a))", "way k j (case a (t it it))", "way k j (it)", "way k j (it a b)", "way k j (+ it)",
    "way k j it it", "way k j its it", "way k j iT",
    # Ways of alts.
    "ways", "ways ", "ways k", "ways k j", "ways k j ", "ways k j a", "ways k j 0", "ways k j it", "ways k j ()",
    "ways k j (t)", "ways k j (t )", "ways k j ( a)", "ways k j (t a b)", "ways k j (t a", "ways k j t a)",
    "ways k j t a",
    "ways k j (t a))", "ways k j ((t a))", "ways k j ((t a)", "ways k j (t (a))", "ways k j ((t) a)",
    "ways k j (num a)",
    "ways k j (it a)", "ways k j (it it)", "ways k j (T a)", "ways k j (1 a)", "ways k j (t num)", "ways k j (t 01)",
    "ways k j (abcdefg a)", "ways k j (t a) b", "ways k j b (t a)", "ways k j (t a)(u a)", "ways k j (t a)  (u a)",
    "ways k j  (t a)", "ways k  j (t a)", "ways  k j (t a)", " ways k j (t a)", "ways k j (t a) ", "ways k j (t  a)",
    "ways k j ( t a)", "ways k j (t a )", "ways k j (t a) (u", "ways k j (t a) (u b", "ways k j (t a) u b)",
    "ways k j (t a) () (u b)", "ways k j (t a) (u)", "ways k j" + " (t a)" * 5, "ways k j" + " (t a)" * 6,
    "ways num j (t a)", "ways it j (t a)", "ways k it (t a)", "ways K j (t a)", "ways k 1 (t a)", "ways (k) j (t a)",
    "ways k (t a)", "ways k j(t a)", "ways k j (t x a)", "ways k j (+ a b)", "ways k j (rec k)a", "way s k j (t a)",
    "ways k j (t (u a))", "ways k j (t (get a it))",
    # Places.
    "place", "place ", "place h", "place h l", "place h l ", "place h l m n", "place num l m", "place it l m",
    "place h num m", "place h it m", "place h l num", "place h l it", "place H l m", "place h 1 m", "place h l (m)",
    "place (h l m)", " place h l m", "place  h l m", "place h  l m", "place h l  m", "place h l m ", "places h l m",
    "place abcdefg l m", "place h abcdefg m", "place h l abcdefg", "place h l -",
    # Boxes.
    "with", "with ", "with x", "with x ", "with x a b", "with x (a)", "with num a", "with it a", "with X a", "with 1 a",
    "with abcdefg a", "with (x) a", "with x num", "with x 01", " with x a", "with  x a", "with x  a", "with x a ",
    "withx a", "With x a", "with x (+ a b", "with x + a b)", "with x (t a)", "with x (get a it)", "with x it it",
    "with x a\t", "\twith x a",
]


def with_it(tree):
    """A term with `it` in the place of each box a."""
    if tree == A:
        return IT
    return tuple(with_it(each) for each in tree) if isinstance(tree, tuple) else tree


def random_it(source, depth):
    """A term of any form, `it` being a box like others."""
    return with_it(random_term(source, depth))


def random_told(source):
    """Told ways of the forms told, seldom right ones."""
    ways, places = {}, {}
    for _ in range(source.randrange(6)):
        how = random_it(source, 3)
        if source.randrange(2):
            how = tuple((names(source), random_it(source, 3)) for _ in range(source.randint(1, 4)))
        ways[names(source)] = (source.choice(["num", names(source)]), how)
    for _ in range(source.randrange(6)):
        sets = tuple((names(source), random_it(source, 3)) for _ in range(source.randrange(5)))
        places[(names(source), names(source))] = (names(source), sets)
    return ways, places


def rows_of(ways, places):
    """The rows of told ways in their order, told here once more by itself."""
    rows = []
    for K, (K2, how) in ways.items():
        if isinstance(how[0], str):
            rows.append(f"way {K} {K2} {term_text(how)}")
        else:
            rows.append(" ".join([f"ways {K} {K2}"] + [f"({t} {term_text(term)})" for t, term in how]))
    for (h, l), (l2, sets) in places.items():
        rows.append(f"place {h} {l} {l2}")
        rows += [f"with {x} {term_text(term)}" for x, term in sets]
    return rows


def ordered(ways, places):
    return {K: ways[K] for K in sorted(ways)}, {place: places[place] for place in sorted(places)}


class Base(unittest.TestCase):
    def reads(self, text, ways, places):
        with self.subTest(text=text[:200]):
            told = read_told(text)
            self.assertEqual([type(told)] + [type(each) for each in told], [tuple, dict, dict])
            self.assertEqual(told, (ways, places))
            self.tuples(told)
            # What is told is the asker's own.
            told[0].clear()
            told[1].clear()
            self.assertEqual(read_told(text=text), (ways, places))

    def tuples(self, told):
        """All within is tuples, texts and whole numbers."""
        for lists in told:
            for pair in lists.items():
                self.odd(pair)

    def odd(self, thing):
        self.assertIn(type(thing), [tuple, str, int])
        if type(thing) is tuple:
            for each in thing:
                self.odd(each)

    def refused(self, text, at):
        with self.subTest(text=text[:200], at=at):
            for _ in range(2):
                with self.assertRaises(SwapError) as seen:
                    read_told(text)
                self.assertIs(type(seen.exception), BadText)
                self.assertEqual(seen.exception.at, at)

    def shows(self, ways, places, text):
        with self.subTest(text=text[:200]):
            before = copy.deepcopy((list(ways.items()), list(places.items())))
            for _ in range(2):
                self.assertEqual(told_shown(ways, places), text)
            self.assertIs(type(told_shown(ways=ways, places=places)), str)
            self.assertEqual((list(ways.items()), list(places.items())), before)
            self.assertEqual(read_told(text), (ways, places))


class Reading(Base):
    def test_nothing_told(self):
        self.reads("", {}, {})

    def test_each_row_of_a_kind(self):
        for text, K, way in WAY_ROWS:
            self.reads(text, {K: way}, {})
            self.reads(f"way other num 1\n{text}\nplace h l m", {"other": ("num", ("num", 1)), K: way},
                       {("h", "l"): ("m", ())})

    def test_each_row_of_a_place(self):
        for text, place, l2 in PLACE_ROWS:
            self.reads(text, {}, {place: (l2, ())})
            self.reads(f"way k j a\n{text}\nwith x 1\nwith y a", {"k": ("j", A)},
                       {place: (l2, (("x", ("num", 1)), ("y", A)))})

    def test_each_row_of_a_box(self):
        for text, each in WITH_ROWS:
            self.reads(f"place h l m\n{text}", {}, {("h", "l"): ("m", (each,))})
            self.reads(f"place h l m\n{text}\nplace h k m\n{text}\nwith y 1\n{text}", {},
                       {("h", "l"): ("m", (each,)), ("h", "k"): ("m", (each, ("y", ("num", 1)), each))})

    def test_each_term(self):
        for term, text in PAIRS:
            for each, shown in [(term, text), (with_it(term), term_text(with_it(term)))]:
                self.reads(f"way k j {shown}", {"k": ("j", each)}, {})
                self.reads(f"ways k j (t {shown})", {"k": ("j", (("t", each),))}, {})
                self.reads(f"ways k j (t {shown}) (u it) (v {shown})",
                           {"k": ("j", (("t", each), ("u", IT), ("v", each)))}, {})
                self.reads(f"place h l m\nwith x {shown}", {}, {("h", "l"): ("m", (("x", each),))})

    def test_it_within_each_term(self):
        for text in ["(+ it a)", "(+ a it)", "(rec k it)", "(rec k a it it)", "(get it f)", "(tag k t it)",
                     "(case it (t x a))", "(case a (t x it))", "(case a (t x 1) (u x it))", "(if it a b)",
                     "(if a it b)", "(if a b it)", "(+ (get (rec k (tag k t it)) f) 1)"]:
            for row in [f"way k j {text}", f"ways k j (t {text})", f"place h l m\nwith x {text}"]:
                with self.subTest(row=row):
                    self.assertEqual(told_shown(*read_told(row)), row)
                    self.assertIn("('box', 'it')", str(read_told(row)))

    def test_kinds_in_any_order_and_of_both_forms(self):
        text = "ways c k (t it)\nway a k 1\nways b num (t 1) (u it)\nway d k a"
        ways, places = read_told(text)
        self.assertEqual(ways, {"a": ("k", ("num", 1)), "b": ("num", (("t", ("num", 1)), ("u", IT))),
                                "c": ("k", (("t", IT),)), "d": ("k", A)})
        self.assertEqual(places, {})

    def test_places_in_any_order(self):
        self.reads("place h l m\nplace g l m\nplace h k m\nwith x 1", {},
                   {("h", "l"): ("m", ()), ("g", "l"): ("m", ()), ("h", "k"): ("m", (("x", ("num", 1)),))})

    def test_boxes_stay_in_their_order_and_as_often_as_they_stand(self):
        self.reads("place h l m\nwith z 1\nwith a 2\nwith z 3", {},
                   {("h", "l"): ("m", (("z", ("num", 1)), ("a", ("num", 2)), ("z", ("num", 3))))})

    def test_a_kind_and_a_place_and_a_box_of_one_name(self):
        self.reads("way h h h\nplace h h h\nwith h h", {"h": ("h", ("box", "h"))},
                   {("h", "h"): ("h", (("h", ("box", "h")),))})

    def test_names_that_are_words_of_the_texts(self):
        for w in WORD_NAMES + ["way", "ways", "place", "with"]:
            box = ("box", w)
            self.reads(f"way {w} {w} {w}\nplace {w} {w} {w}\nwith {w} {w}", {w: (w, box)}, {(w, w): (w, ((w, box),))})
            self.reads(f"ways {w} {w} ({w} {w}) ({w} {w})", {w: (w, ((w, box), (w, box)))}, {})

    def test_brackets_twenty_deep(self):
        deep = "(+ 1 " * 20 + "it" + ")" * 20
        for text in [f"way k j {deep}", f"place h l m\nwith x {deep}"]:
            self.assertEqual(told_shown(*read_told(text)), text)
        # A tag's own bracket counts.
        deep = "(+ 1 " * 19 + "it" + ")" * 19
        for text in [f"ways k j (t {deep})", f"ways k j (t it) (u {deep})", f"ways k j (t {deep}) (u {deep})"]:
            self.assertEqual(told_shown(*read_told(text)), text)
        self.assertEqual(read_told("ways k j (t " + "(case a (t x " * 9 + "it" + "))" * 9 + ")")[0]["k"][0], "j")

    def test_many_rows(self):
        names_of = [a + b for a in "abcdefghij" for b in "abcdefghij"]
        rows = [f"way {K} num 1" for K in names_of]
        for h in names_of:
            rows += [f"place {h} l m"] + ["with x (+ it 1)"] * 12
        ways, places = read_told("\n".join(rows))
        self.assertEqual((len(ways), len(places)), (100, 100))
        self.assertTrue(all(len(way[1]) == 12 for way in places.values()))


class Wrong(Base):
    def test_rows_that_are_none(self):
        for row in NO_ROWS:
            if row != "":
                self.refused(row, 0)
                self.refused(f"{row}\nway k j a", 0)
            self.refused(f"way z num a\n{row}", 1)
            self.refused(f"way z num a\n{row}\nway y num a", 1)
            self.refused(f"place g l m\n{row}", 1)
            self.refused(f"way z num a\nplace g l m\nwith x 1\n{row}", 3)
            self.refused(f"way z num a\nplace g l m\nwith x 1\n{row}\nwith x 1", 3)

    def test_terms_that_are_none(self):
        for text in NO_TERMS:
            # Those with `it` may be terms here, and a line feed would begin a row.
            if "\n" not in text and "it" not in text:
                self.refused(f"way z num 1\nway k j {text}", 1)
                self.refused(f"ways k j (t {text})", 0)
                self.refused(f"ways k j (t a) (u {text}) (v a)", 0)
                self.refused(f"place h l m\nwith x 1\nwith x {text}", 2)

    def test_empty_rows(self):
        self.refused("\n", 0)
        self.refused("\n\n", 0)
        self.refused("\nway k j a", 0)
        self.refused("way k j a\n", 1)
        self.refused("way k j a\n\nplace h l m", 1)
        self.refused("place h l m\n", 1)
        self.refused("place h l m\nwith x 1\n", 2)
        self.refused("place h l m\n\nwith x 1", 1)
        self.refused("place h l m\nwith x 1\n\n", 2)

    def test_a_box_ahead_of_all_places(self):
        for text, each in WITH_ROWS:
            self.refused(text, 0)
            self.refused(f"{text}\nplace h l m", 0)
            self.refused(f"way k j a\n{text}", 1)
            self.refused(f"ways k j (t a)\nway j j a\n{text}\nplace h l m", 2)

    def test_a_way_behind_a_place(self):
        for text, K, way in WAY_ROWS:
            self.refused(f"place h l m\n{text}", 1)
            self.refused(f"place h l m\nwith x 1\n{text}", 2)
            self.refused(f"way zz num 1\nplace h l m\nwith x 1\nplace h k m\n{text}\nwith x 1", 4)

    def test_a_kind_told_twice(self):
        for one in ["way k j a", "ways k j (t a)"]:
            for other in ["way k j a", "ways k j (t a)", "way k num 1", "ways k i (t a) (u b)"]:
                self.refused(f"{one}\n{other}", 1)
                self.refused(f"{one}\nway z num 1\n{other}\nplace h l m", 2)
                self.refused(f"way z num 1\n{one}\nways y num (t 1)\n{other}\nnone", 3)
        self.refused("way k j a\nway k j a\nway k j a", 1)

    def test_a_place_told_twice(self):
        self.refused("place h l m\nplace h l m", 1)
        self.refused("place h l m\nplace h l n", 1)
        self.refused("place h l m\nwith x 1\nplace g l m\nwith y 1\nplace h l n\nwith x 1", 4)
        self.refused("way k j a\nplace h l m\nplace h k m\nplace h k m", 3)
        self.reads("place h l m\nplace h k m\nplace g l m\nplace l h m", {},
                   {("h", "l"): ("m", ()), ("h", "k"): ("m", ()), ("g", "l"): ("m", ()), ("l", "h"): ("m", ())})

    def test_the_first_of_several_wrong_rows(self):
        self.refused("way\nplace\nwith", 0)
        self.refused("way k j a\nwith x 1\nway k j a\nplace", 1)
        self.refused("place h l m\nwith x\nplace h l m\nway k j a", 1)
        self.refused("place h l m\nwith x 1\nplace h l m\nway k j a", 2)
        self.refused("place h l m\nwith x (+ a b\nwith x b)", 1)

    def test_brackets_beyond_twenty(self):
        for many in [21, 22, 200]:
            deep = "(+ 1 " * many + "it" + ")" * many
            self.refused(f"way z num 1\nway k j {deep}", 1)
            self.refused(f"place h l m\nwith x {deep}", 1)
            self.refused(f"ways k j (t {deep})", 0)
        deep = "(+ 1 " * 20 + "it" + ")" * 20
        self.refused(f"ways k j (t {deep})", 0)
        self.refused(f"ways k j (t it) (u {deep})", 0)

    def test_very_long_ones_are_refused_likewise(self):
        for row in ["(" * 99000, ")" * 99000, "ways k j " + "(t " * 30000, "way k j " + "(+ 1 " * 19000, " " * 99000,
                    "a" * 99000, "ways k j" + " (t a)" * 16000, "way k j " + "1" * 99000]:
            self.refused(row, 0)
            self.refused(f"place h l m\n{row}", 1)

    def test_each_place_of_a_wrong_row(self):
        rows = rows_of({"k": ("j", A), "i": ("num", (("t", IT),))},
                       {("h", "l"): ("m", (("x", A),)), ("h", "k"): ("m", ())})
        self.assertEqual(read_told("\n".join(rows))[0]["k"], ("j", A))
        for k in range(len(rows) + 1):
            for row in ["", "x", "way k j", "ways k j a", "place h", "with x"]:
                self.refused("\n".join(rows[:k] + [row] + rows[k:]), k)

    def test_what_is_read_is_a_text_of_what_is_told(self):
        """One sign more, less or other: what is read is shown again by rows in its order, the others are refused."""
        seen = 0
        for text in ["way k j (+ a it)\nways m num (t it) (u a)\nplace h l m\nwith x a\nplace g l m",
                     "place a b c\nwith x it"]:
            for other in one_sign_off(text, " ()ait1\nw"):
                try:
                    told = read_told(other)
                except BadText as refusal:
                    self.assertLess(refusal.at, len(other.split("\n")))
                else:
                    self.assertEqual("\n".join(rows_of(*told)), other)
                    seen += 1
        self.assertGreater(seen, 100)


class Shown(Base):
    def test_nothing(self):
        self.shows({}, {}, "")

    def test_each_row(self):
        for text, K, way in WAY_ROWS:
            self.shows({K: way}, {}, text)
        for text, place, l2 in PLACE_ROWS:
            self.shows({}, {place: (l2, ())}, text)
        for text, each in WITH_ROWS:
            self.shows({}, {("h", "l"): ("m", (each,))}, f"place h l m\n{text}")

    def test_each_term(self):
        for term, text in PAIRS:
            self.shows({"k": ("j", term)}, {("h", "l"): ("m", (("x", term),))},
                       f"way k j {text}\nplace h l m\nwith x {text}")
            self.shows({"k": ("j", (("t", term), ("u", term)))}, {}, f"ways k j (t {text}) (u {text})")

    def test_kinds_sorted_whatever_their_forms(self):
        ways = {"c": ("k", A), "aa": ("k", (("t", IT),)), "b": ("k", A), "ab": ("k", (("u", A), ("t", A))),
                "a": ("k", A)}
        self.shows(ways, {}, "way a k a\nways aa k (t it)\nways ab k (u a) (t a)\nway b k a\nway c k a")

    def test_places_sorted_by_hands_then_marks(self):
        places = {("h", "b"): ("z", ()), ("g", "c"): ("y", (("x", A),)), ("h", "a"): ("x", (("z", A), ("a", A))),
                  ("ga", "a"): ("w", ())}
        self.shows({}, places, "place g c y\nwith x a\nplace ga a w\nplace h a x\nwith z a\nwith a a\nplace h b z")

    def test_kinds_ahead_of_places(self):
        self.shows({"z": ("num", A)}, {("a", "a"): ("a", ())}, "way z num a\nplace a a a")

    def test_of_chance(self):
        source = random.Random(241)
        for _ in range(300):
            ways, places = random_told(source)
            self.shows(ways, places, "\n".join(rows_of(*ordered(ways, places))))

    def test_rows_in_any_order_are_read_to_the_same(self):
        source = random.Random(242)
        for _ in range(100):
            ways, places = random_told(source)
            mixed_ways = dict(source.sample(list(ways.items()), len(ways)))
            mixed_places = dict(source.sample(list(places.items()), len(places)))
            self.reads("\n".join(rows_of(mixed_ways, mixed_places)), ways, places)
            self.assertEqual(told_shown(mixed_ways, mixed_places), told_shown(ways, places))

    def test_all_ways_of_overs(self):
        """Told by a text, all that an over found by rules is told: the over stays the same."""
        source = random.Random(243)
        for _ in range(80):
            first, second, ways, places = right_over(source)
            self.assertEqual(read_told(told_shown(ways, places)), (ways, places))
            over = Over(first, second, ways, places)
            told = read_told(told_shown(over.ways, over.places))
            self.assertEqual(told, (over.ways, over.places))
            self.assertEqual(fields_of(Over(first, second, *told)), fields_of(over))
