"""Ways over from kind to kind [2], [16], [17], [19]."""

import copy
import itertools
import random
import unittest

from swapstride.bricks import term_of
from swapstride.errors import Lacks, NoCount, NoName, SwapError, Twice, WrongKind
from swapstride.looker import look
from swapstride.reader import read
from swapstride.ways import goes_to, look_ways, made_ways

IT = ("box", "it")

FIRST = read("""rec none
rec pt x num y num
alt sign up none down num
rec line a pt b pt s sign
alt shape dot pt far line not none""")
SECOND = read("""rec none
rec spot x num y num z num
alt mark high none low num deep spot
rec line a spot c num
alt shape dot spot far line not none
alt only one num""")

# Ways that are right all together, one for each kind of FIRST.
RIGHT = {
    "none": ("none", ("rec", "none", ())),
    "pt": ("spot", term_of("(rec spot x y 7)")),
    "sign": ("mark", (("up", ("tag", "mark", "high", IT)),
                      ("down", ("tag", "mark", "low", ("op", "+", IT, ("num", 1)))))),
    "line": ("line", term_of("(rec line a (get b x))")),
    "shape": ("shape", (("dot", ("tag", "shape", "dot", IT)), ("far", ("tag", "shape", "far", IT)),
                        ("not", ("tag", "shape", "not", ("rec", "none", ()))))),
}

# The same, but that no way rests on another one: so each may be put in another one's place.
FREE = {
    "none": RIGHT["none"],
    "pt": RIGHT["pt"],
    "sign": ("mark", (("up", term_of("(tag mark low 3)")), ("down", ("tag", "mark", "low", IT)))),
    "line": ("line", term_of("(rec line (rec spot 1 2 3) 4)")),
    "shape": ("num", (("dot", ("num", 1)), ("far", ("num", 2)), ("not", ("num", 3)))),
}


def kinds_of(text):
    """A make of kinds alone."""
    make = read(text)
    look(make)
    return make


class Looking(unittest.TestCase):
    def lets_by(self, ways, first=FIRST, second=SECOND):
        with self.subTest(ways=ways):
            before = copy.deepcopy(ways)
            self.assertIs(look_ways(first, second, ways), True)
            self.assertIs(look_ways(first, second, ways), True)
            self.assertEqual(list(ways.items()), list(before.items()))

    def refused(self, refusal, ways, first=FIRST, second=SECOND):
        with self.subTest(ways=ways):
            before = copy.deepcopy(ways)
            for _ in range(2):
                with self.assertRaises(SwapError) as seen:
                    look_ways(first, second, ways)
                self.assertIs(type(seen.exception), refusal)
            self.assertEqual(list(ways.items()), list(before.items()))

    def beside(self, refusal, K, way):
        """Refused beside right ways of the other kinds, wherever it stands in the dict."""
        others = {other: FREE[other] for other in FREE if other != K}
        self.lets_by(others)
        self.refused(refusal, {**FREE, K: way})
        self.refused(refusal, {K: way, **others})
        self.refused(refusal, {**others, K: way})


class LetBy(Looking):
    def test_none_at_all(self):
        self.lets_by({})
        self.lets_by({}, ((), (), ()), ((), (), ()))

    def test_by_the_names_of_its_arguments(self):
        self.assertIs(look_ways(first=FIRST, second=SECOND, ways=RIGHT), True)

    def test_all_in_any_order(self):
        for order in itertools.permutations(RIGHT):
            self.lets_by({K: RIGHT[K] for K in order})

    def test_each_by_itself_where_it_rests_on_no_other(self):
        for K in ["none", "pt"]:
            self.lets_by({K: RIGHT[K]})
        self.lets_by({"sign": ("num", (("up", ("num", 3)), ("down", IT)))})
        self.lets_by({"line": ("num", ("num", 5))})
        self.lets_by({"shape": ("num", (("dot", ("num", 1)), ("far", ("num", 2)), ("not", ("num", 3))))})

    def test_kinds_to_num(self):
        self.lets_by({"none": ("num", ("num", 0)), "pt": ("num", term_of("(+ x y)")),
                      "sign": ("num", (("up", IT), ("down", IT))),
                      "line": ("num", term_of("(+ a (* b s))")),
                      "shape": ("num", (("dot", IT), ("far", IT), ("not", IT)))})

    def test_kinds_to_a_kind_of_the_other_sort(self):
        self.lets_by({"pt": ("mark", term_of("(tag mark low (- x y))"))})
        self.lets_by({"pt": ("mark", term_of("(if x (tag mark high (rec none)) (tag mark deep (rec spot x y 1)))"))})
        self.lets_by({"sign": ("spot", (("up", term_of("(rec spot 1 2 3)")), ("down", ("rec", "spot", (IT, IT, IT)))))})

    def test_two_kinds_to_one(self):
        both = (("up", term_of("(rec spot 1 2 3)")), ("down", ("rec", "spot", (IT, ("num", 0), ("num", 0)))))
        self.lets_by({"pt": RIGHT["pt"], "sign": ("spot", both), "line": ("spot", ("box", "s"))})

    def test_a_kind_of_the_second_make_that_the_first_has_not(self):
        self.lets_by({"pt": ("only", term_of("(tag only one x)"))})

    def test_boxes_have_the_kinds_to_which_they_go(self):
        self.lets_by({"pt": ("num", ("num", 1)), "line": ("num", term_of("(+ a b)"))})
        self.lets_by({"pt": ("spot", term_of("(rec spot 1 1 1)")), "line": ("num", term_of("(+ (get a z) (get b x))"))})
        self.lets_by({"sign": ("num", (("up", ("num", 1)), ("down", IT))), "line": ("num", ("box", "s"))})
        self.lets_by({"pt": ("only", term_of("(tag only one 1)")), "line": ("num", term_of("(case a (one q q))")),
                      "shape": ("num", (("dot", ("case", IT, (("one", "q", ("box", "q")),))), ("far", IT),
                                        ("not", ("num", 1))))})

    def test_an_arms_box_named_like_a_field_that_does_not_go_over(self):
        case = "(case (tag only one 3) (one {} 1))"
        self.lets_by({"line": ("num", term_of(case.format("a")))})
        self.lets_by({"line": ("num", term_of(case.format("s")))})
        self.lets_by({"pt": RIGHT["pt"], "line": ("num", term_of(case.format("s")))})
        self.lets_by({"pt": RIGHT["pt"], "line": ("num", term_of(case.format("x")))})
        for field in ["a", "b"]:
            self.refused(Twice, {"pt": RIGHT["pt"], "line": ("num", term_of(case.format(field)))})
        self.refused(Twice, {**RIGHT, "line": ("num", term_of(case.format("s")))})

    def test_numbers_at_the_bound(self):
        self.lets_by({"none": ("num", ("num", 4294967295))})
        self.lets_by({"sign": ("num", (("up", ("num", 4294967295)), ("down", ("num", 0))))})

    def test_names_that_are_the_same_among_kinds_and_fields(self):
        first = kinds_of("rec a a num b num\nrec b a a b num\nalt c a a b b c num")
        second = kinds_of("rec b a num\nrec a a b c num\nalt c c b")
        ways = {"a": ("b", term_of("(rec b (+ a b))")), "b": ("a", term_of("(rec a a b)")),
                "c": ("c", (("a", ("tag", "c", "c", IT)), ("b", ("tag", "c", "c", ("get", IT, "a"))),
                            ("c", ("tag", "c", "c", ("rec", "b", (IT,))))))}
        for order in itertools.permutations(ways):
            self.lets_by({K: ways[K] for K in order}, first, second)

    def test_a_make_to_itself(self):
        self.lets_by(made_ways(FIRST, FIRST, {})[0], FIRST, FIRST)


class Names(Looking):
    def test_a_first_kind_that_is_not_there(self):
        for K in ["zz", "spot", "mark", "x", "up", "num", "only"]:
            self.refused(NoName, {K: ("num", ("num", 1))})
            self.beside(NoName, K, ("num", ("num", 1)))
            self.beside(NoName, K, ("none", ("rec", "none", ())))

    def test_a_second_kind_that_is_not_there(self):
        for K2 in ["zz", "pt", "sign", "x", "high", "it"]:
            for K in RIGHT:
                self.refused(NoName, {K: (K2, RIGHT[K][1])})
                self.beside(NoName, K, (K2, RIGHT[K][1]))

    def test_names_ahead_of_how(self):
        for K, K2 in [("zz", "num"), ("zz", "zz"), ("pt", "pt"), ("sign", "sign"), ("line", "zz"), ("shape", "zz")]:
            for how in [("num", 4294967296), ("box", "zz"), (), (("zz", ("num", 1)),), (("up", ("box", "zz")),),
                        ("rec", "spot", ()), (("up", ("num", 1)), ("down", ("num", 4294967296)))]:
                self.refused(NoName, {K: (K2, how)})
                self.beside(NoName, K, (K2, how))

    def test_names_ahead_of_the_hows_of_other_kinds(self):
        bad = {"zz": ("num", ("num", 1)), "pt": ("spot", ("num", 1)), "sign": ("num", ())}
        for order in itertools.permutations(bad):
            self.refused(NoName, {K: bad[K] for K in order})
        bad = {"line": ("zz", ("num", 1)), "pt": ("spot", term_of("(rec spot)")), "sign": ("num", ("num", 1))}
        for order in itertools.permutations(bad):
            self.refused(NoName, {K: bad[K] for K in order})


class Forms(Looking):
    def test_a_term_where_tags_are_asked_for(self):
        for term in ["5", "x", "(+ 1 2)", "(rec none)", "(get a x)", "(tag mark low 1)", "(if 1 2 3)",
                     "(case a (one q 1))", "9999999999", "(rec zz)"]:
            for K2 in ["num", "mark", "none"]:
                self.beside(Lacks, "sign", (K2, term_of(term)))
                self.beside(Lacks, "shape", (K2, term_of(term)))
        self.beside(Lacks, "sign", ("num", IT))

    def test_tags_where_a_term_is_asked_for(self):
        one = ("num", 1)
        for tags in [(), (("x", one),), (("x", one), ("y", one)), (("num", one),), (("rec", one), ("box", one))]:
            for K in ["none", "pt", "line"]:
                self.beside(Lacks, K, ("num", tags))
                self.beside(Lacks, K, ("spot", tags))

    def test_other_tags(self):
        one = ("num", 1)
        for tags in ["", "up", "down", "down up", "up up", "down down", "up down down", "up up down", "up down more",
                     "more up down", "up more", "high low", "up low", "it down", "up down up down"]:
            self.beside(Lacks, "sign", ("num", tuple((t, one) for t in tags.split())))
        for tags in ["dot far", "far not", "dot not", "dot not far", "not far dot", "far dot not", "dot far not not",
                     "dot far far not", "dot dot far not", "dot far not deep", "dot deep not"]:
            self.beside(Lacks, "shape", ("num", tuple((t, one) for t in tags.split())))

    def test_an_alt_of_one_tag(self):
        first = kinds_of("alt a t num")
        self.lets_by({"a": ("num", (("t", IT),))}, first)
        for how in [(), (("u", IT),), (("t", IT), ("t", IT)), IT, ("num", 1)]:
            self.refused(Lacks, {"a": ("num", how)}, first)

    def test_form_and_tags_ahead_of_terms(self):
        wide = ("num", 4294967296)
        lost = ("box", "zz")
        for how in [wide, lost, (("up", wide),), (("down", lost), ("up", wide)), (("up", lost), ("up", lost)),
                    (("up", wide), ("down", wide), ("more", wide)), (("up", ("num", 1)), ("more", lost))]:
            self.beside(Lacks, "sign", ("num", how))
        for how in [(("x", wide),), (("x", lost), ("y", wide))]:
            self.beside(Lacks, "pt", ("spot", how))

    def test_forms_ahead_of_the_terms_of_other_kinds(self):
        bad = {"none": ("num", ("box", "zz")), "sign": ("num", ()), "line": ("num", ("num", 4294967296))}
        for order in itertools.permutations(bad):
            self.refused(Lacks, {K: bad[K] for K in order})


class Terms(Looking):
    def alt_terms(self, refusal, term, K2="num"):
        """A term refused at each tag of each alt."""
        good = {"num": ("num", 1), "mark": term_of("(tag mark low 1)")}[K2]
        for K, tags in [("sign", ["up", "down"]), ("shape", ["dot", "far", "not"])]:
            for bad in tags:
                self.beside(refusal, K, (K2, tuple((t, term if t == bad else good) for t in tags)))

    def test_a_term_of_another_kind(self):
        for K, terms in {"none": ["(rec spot 1 2 3)", "1"], "pt": ["x", "y", "(rec none)", "(tag mark low 1)"],
                         "line": ["a", "b", "1", "s"]}.items():
            for term in terms:
                self.beside(WrongKind, K, (RIGHT[K][0], term_of(term)))
        for term in ["(rec none)", "(rec spot 1 2 3)", "(tag mark low 1)"]:
            self.alt_terms(WrongKind, term_of(term))
        for term in ["1", "(rec none)", "(tag only one 1)"]:
            self.alt_terms(WrongKind, term_of(term), "mark")

    def test_it_of_another_kind_than_the_one_asked_for(self):
        tags = RIGHT["sign"][1]
        self.beside(WrongKind, "sign", ("mark", (("up", IT), tags[1])))
        self.beside(WrongKind, "sign", ("mark", (tags[0], ("down", IT))))
        self.beside(WrongKind, "sign", ("mark", (("up", ("tag", "mark", "low", IT)), tags[1])))
        self.beside(WrongKind, "sign", ("mark", (tags[0], ("down", ("tag", "mark", "high", IT)))))
        self.beside(WrongKind, "sign", ("num", (("up", ("op", "+", IT, IT)), ("down", IT))))

    def test_numbers_of_wide_and_more(self):
        for n in [4294967296, 4294967297, 9999999999]:
            self.beside(WrongKind, "none", ("num", ("num", n)))
            self.beside(WrongKind, "pt", ("spot", ("rec", "spot", (("num", 1), ("num", 2), ("num", n)))))
            self.alt_terms(WrongKind, ("num", n))

    def test_a_box_that_is_not_at_hand(self):
        for x in ["zz", "pt", "z", "a", "it", "none"]:
            self.beside(NoName, "pt", ("num", ("box", x)))
        for x in ["x", "c", "it", "line"]:
            self.beside(NoName, "line", ("num", ("op", "+", ("num", 1), ("box", x))))
        for x in ["zz", "up", "x", "a", "dot"]:
            self.alt_terms(NoName, ("box", x))
        self.beside(NoName, "none", ("num", IT))

    def test_a_box_whose_kind_does_not_go_over(self):
        self.refused(NoName, {"line": ("num", ("box", "a"))})
        self.refused(NoName, {"line": ("spot", ("box", "a"))})
        self.refused(NoName, {"pt": RIGHT["pt"], "line": ("mark", ("box", "s"))})
        self.lets_by({"pt": RIGHT["pt"], "line": ("spot", ("box", "a"))})
        self.refused(NoName, {"sign": ("num", (("up", IT), ("down", IT)))})
        self.refused(NoName, {"sign": RIGHT["sign"]})
        self.refused(NoName, {"shape": ("num", (("dot", IT), ("far", ("num", 1)), ("not", ("num", 1))))})
        self.refused(NoName, {"shape": ("num", (("dot", ("num", 1)), ("far", ("num", 1)), ("not", IT)))})
        ways = {**FREE, "shape": ("shape", tuple((t, ("tag", "shape", t, IT)) for t in ["dot", "far", "not"]))}
        self.lets_by(ways)
        for left in ["pt", "line", "none"]:
            self.refused(NoName, {K: ways[K] for K in ways if K != left})

    def test_fields_of_other_kinds_are_not_at_hand(self):
        self.beside(NoName, "line", ("num", ("box", "x")))
        self.beside(NoName, "pt", ("num", ("box", "b")))

    def test_kinds_and_parts_are_those_of_the_second_make(self):
        self.beside(NoName, "none", ("num", term_of("(get (rec pt 1 2) x)")))
        self.beside(NoCount, "pt", ("spot", term_of("(rec spot x y)")))
        self.beside(NoName, "line", ("num", term_of("(get a a)")))
        self.beside(NoName, "line", ("mark", term_of("(tag mark up (rec none))")))
        self.beside(WrongKind, "line", ("mark", term_of("(tag mark low a)")))
        self.beside(WrongKind, "line", ("num", term_of("(get s x)")))

    def test_whatever_terms_are_refused_by(self):
        for refusal, text in [(NoCount, "(get (rec spot 1) x)"), (Lacks, "(case (tag mark low 1) (low q 1))"),
                              (Twice, "(case (tag only one 1) (one q 1) (one q 1))"), (NoName, "(get (rec none) x)"),
                              (WrongKind, "(+ 1 (rec none))"), (WrongKind, "(rec mark)"), (WrongKind, "(tag spot x 1)"),
                              (NoName, "(rec zz)"), (NoName, "(tag zz x 1)"), (WrongKind, "(if (rec none) 1 2)")]:
            for K in ["none", "pt", "line"]:
                self.beside(refusal, K, ("num", term_of(text)))
            self.alt_terms(refusal, term_of(text))

    def test_an_arms_box_that_is_at_hand_already(self):
        for x in ["x", "y"]:
            self.beside(Twice, "pt", ("num", term_of(f"(case (tag only one 3) (one {x} 1))")))
        it = ("case", ("tag", "only", "one", ("num", 1)), (("one", "it", ("num", 1)),))
        self.beside(Twice, "sign", ("num", (("up", ("num", 1)), ("down", it))))
        # Where the tag's kind doesn't go over no box is at hand.
        self.lets_by({"sign": ("num", (("up", it), ("down", ("num", 1))))})

    def test_a_way_refused_by_where_another_leads(self):
        self.lets_by({"pt": ("spot", term_of("(rec spot x y 1)")), "line": ("num", term_of("(get a x)"))})
        self.refused(WrongKind, {"pt": ("num", ("box", "x")), "line": ("num", term_of("(get a x)"))})
        self.refused(WrongKind, {"line": ("num", term_of("(get a x)")), "pt": ("num", ("box", "x"))})


class Goes(unittest.TestCase):
    def test_num(self):
        for ways in [{}, RIGHT, {"pt": ("num", ("num", 1))}]:
            self.assertEqual(goes_to(ways, "num"), "num")

    def test_kinds_with_and_without_a_way(self):
        told = {"none": "none", "pt": "spot", "sign": "mark", "line": "line", "shape": "shape", "num": "num",
                "spot": None, "mark": None, "zz": None, "it": None}
        for kind, other in told.items():
            self.assertEqual(goes_to(RIGHT, kind), other)
            self.assertEqual(goes_to(ways=RIGHT, kind=kind), other)
            self.assertIs(goes_to({}, kind), "num" if kind == "num" else None)
        self.assertEqual(goes_to({"a": ("num", ("num", 1))}, "a"), "num")
        self.assertEqual(goes_to({"a": ("b", ("num", 1)), "b": ("a", ("num", 1))}, "a"), "b")


class Making(unittest.TestCase):
    def makes(self, first, second, told, ways, lacking):
        """ways are those made by rules; told ones are there beside them."""
        first = kinds_of(first) if isinstance(first, str) else first
        second = kinds_of(second) if isinstance(second, str) else second
        with self.subTest(first=first, second=second, told=told):
            before = copy.deepcopy(told)
            found = made_ways(first, second, told)
            self.assertIs(type(found), tuple)
            self.assertEqual(found, ({**told, **ways}, lacking))
            self.assertEqual([type(each) for each in found], [dict, list])
            self.assertEqual(list(told.items()), list(before.items()))
            self.assertIs(look_ways(first, second, found[0]), True)
            found[0].clear()
            found[1].append("more")
            self.assertEqual(made_ways(first, second, told), ({**told, **ways}, lacking))
            self.assertEqual(list(told.items()), list(before.items()))


class Recs(Making):
    def test_nothing_at_all(self):
        self.makes("", "", {}, {}, [])
        self.makes("", "rec a x num", {}, {}, [])
        self.makes("rec a x num", "", {}, {}, ["a"])

    def test_by_the_names_of_its_arguments(self):
        first = kinds_of("rec a x num")
        self.assertEqual(made_ways(first=first, second=first, told={}), ({"a": ("a", term_of("(rec a x)"))}, []))

    def test_the_same(self):
        self.makes("rec a", "rec a", {}, {"a": ("a", ("rec", "a", ()))}, [])
        self.makes("rec a x num y num", "rec a x num y num", {}, {"a": ("a", term_of("(rec a x y)"))}, [])

    def test_fields_more(self):
        self.makes("rec a", "rec a x num", {}, {"a": ("a", term_of("(rec a 0)"))}, [])
        for fields, how in [("y num x num", "(rec a 0 x)"), ("x num y num", "(rec a x 0)"),
                            ("y num x num z num", "(rec a 0 x 0)")]:
            self.makes("rec a x num", f"rec a {fields}", {}, {"a": ("a", term_of(how))}, [])

    def test_noughts_for_fields_of_each_kind(self):
        second = "rec e\nrec p x num y num\nalt w on p off e\nrec a n num e e p p w w"
        how = "(rec a 0 (rec e) (rec p 0 0) (tag w on (rec p 0 0)))"
        self.makes("rec a", second, {}, {"a": ("a", term_of(how))}, [])
        self.makes("rec a n num", second, {}, {"a": ("a", term_of(how.replace("a 0", "a n")))}, [])

    def test_fields_fewer(self):
        self.makes("rec a x num y num z num", "rec a y num", {}, {"a": ("a", term_of("(rec a y)"))}, [])
        self.makes("rec a x num", "rec a", {}, {"a": ("a", ("rec", "a", ()))}, [])

    def test_fields_turned_about(self):
        self.makes("rec a x num y num z num", "rec a z num x num y num", {}, {"a": ("a", term_of("(rec a z x y)"))}, [])

    def test_fields_more_fewer_and_turned_about(self):
        self.makes("rec a x num y num z num", "rec a w num z num x num", {}, {"a": ("a", term_of("(rec a 0 z x)"))}, [])

    def test_fields_of_another_kind(self):
        e = {"e": ("e", ("rec", "e", ()))}
        self.makes("rec e\nrec a x num", "rec e\nrec a x e", {}, e, ["a"])
        self.makes("rec e\nrec a x e", "rec e\nrec a x num", {}, e, ["a"])
        self.makes("rec e\nrec a x e y num", "rec e\nrec a x e y e", {}, e, ["a"])
        self.makes("rec e\nrec a x e y num", "rec e\nrec a y num x num", {}, e, ["a"])

    def test_a_field_of_another_kind_that_the_second_make_has_not(self):
        self.makes("rec e\nrec a x e y num", "rec a y num", {}, {"a": ("a", term_of("(rec a y)"))}, ["e"])

    def test_a_field_whose_kind_does_not_go_over(self):
        # The field is there, but lacks a way: no nought is put in its place.
        self.makes("rec e\nrec a x e", "rec a x num", {}, {}, ["e", "a"])
        self.makes("alt e t num\nrec a x e", "rec e\nrec a x e", {}, {}, ["e", "a"])

    def test_kinds_that_rest_on_others(self):
        text = "rec p x num\nrec q p p\nrec r q q p p\nrec s r r q q p p"
        ways = {"p": ("p", term_of("(rec p x)")), "q": ("q", term_of("(rec q p)")), "r": ("r", term_of("(rec r q p)")),
                "s": ("s", term_of("(rec s r q p)"))}
        self.makes(text, text, {}, ways, [])
        # Without the lowest one none is left, but where its field isn't asked for.
        self.makes(text, "alt p x num\nrec q p p\nrec r q q p p\nrec s r r q q p p", {}, {}, ["p", "q", "r", "s"])
        self.makes(text, "rec q y num\nrec r q q\nrec s r r q q", {},
                   {"q": ("q", term_of("(rec q 0)")), "r": ("r", term_of("(rec r q)")),
                    "s": ("s", term_of("(rec s r q)"))}, ["p"])

    def test_kinds_in_another_order(self):
        self.makes("rec a\nrec b x a\nrec c", "rec c y num\nrec b\nrec a", {},
                   {"a": ("a", ("rec", "a", ())), "b": ("b", ("rec", "b", ())), "c": ("c", term_of("(rec c 0)"))}, [])


class Alts(Making):
    def tags(self, K, names):
        return (K, tuple((t, ("tag", K, t, IT)) for t in names.split()))

    def test_the_same(self):
        self.makes("alt a t num", "alt a t num", {}, {"a": self.tags("a", "t")}, [])
        self.makes("alt a t num u num", "alt a t num u num", {}, {"a": self.tags("a", "t u")}, [])

    def test_tags_more(self):
        self.makes("alt a t num", "alt a s num t num u num", {}, {"a": self.tags("a", "t")}, [])
        self.makes("alt a t num u num", "rec e\nalt a v e t num w num u num", {}, {"a": self.tags("a", "t u")}, [])

    def test_tags_turned_about(self):
        self.makes("alt a t num u num v num", "alt a v num t num u num", {}, {"a": self.tags("a", "t u v")}, [])

    def test_tags_fewer(self):
        for tags in ["t num", "u num", "t num v num", "s num u num"]:
            self.makes("alt a t num u num", f"alt a {tags}", {}, {}, ["a"])

    def test_tags_of_another_kind(self):
        e = {"e": ("e", ("rec", "e", ()))}
        self.makes("rec e\nalt a t num u e", "rec e\nalt a t num u num", {}, e, ["a"])
        self.makes("rec e\nalt a t num u e", "rec e\nalt a t e u e", {}, e, ["a"])
        self.makes("rec e\nalt a t num u e", "rec e\nalt a t e u num", {}, e, ["a"])
        self.makes("rec e\nalt a t num u e", "rec e\nalt a t num u e", {}, {**e, "a": self.tags("a", "t u")}, [])

    def test_a_tag_whose_kind_does_not_go_over(self):
        self.makes("rec e\nalt a t num u e", "alt a t num u num", {}, {}, ["e", "a"])
        # Neither is the tag there, nor does its kind go over.
        self.makes("rec e\nalt a t num u e", "alt a t num", {}, {}, ["e", "a"])
        self.makes("rec e\nalt a t num u e", "alt e t num\nalt a t num u e", {}, {}, ["e", "a"])

    def test_alts_within_alts_and_recs(self):
        text = "alt a t num\nalt b t a u num\nrec c x b y a\nalt d t c u b"
        ways = {"a": self.tags("a", "t"), "b": self.tags("b", "t u"), "c": ("c", term_of("(rec c x y)")),
                "d": self.tags("d", "t u")}
        self.makes(text, text, {}, ways, [])


class Sorts(Making):
    def test_kinds_of_the_other_sort(self):
        self.makes("rec a x num", "alt a x num", {}, {}, ["a"])
        self.makes("alt a x num", "rec a x num", {}, {}, ["a"])

    def test_kinds_left_out(self):
        ways = {"b": ("b", ("rec", "b", ()))}
        self.makes("rec a\nrec b\nalt c t num", "rec b", {}, ways, ["a", "c"])
        self.makes("rec a\nrec b\nalt c t num", "rec d", {}, {}, ["a", "b", "c"])

    def test_lacking_in_the_first_makes_order(self):
        names = ["e", "b", "f", "a", "d", "c"]
        for left in range(7):
            for order in [names, sorted(names), list(reversed(names))]:
                first = "\n".join(f"rec {name}" for name in order)
                second = "\n".join(f"rec {name}" for name in sorted(order[left:]))
                ways = {name: (name, ("rec", name, ())) for name in order[left:]}
                self.makes(first, second, {}, ways, order[:left])


class Told(Making):
    def test_told_ways_are_kept_as_they_are(self):
        for many in range(len(RIGHT) + 1):
            for names in itertools.combinations(RIGHT, many):
                told = {K: RIGHT[K] for K in reversed(names)}
                found = made_ways(FIRST, SECOND, told)
                for K in names:
                    self.assertEqual(found[0][K], RIGHT[K])

    def test_all_told(self):
        self.makes(FIRST, SECOND, RIGHT, {}, [])

    def test_a_told_way_in_the_place_of_one_by_rules(self):
        told = {"a": ("a", term_of("(rec a (+ x 1))"))}
        self.makes("rec a x num", "rec a x num", told, {}, [])
        told = {"a": ("num", ("box", "x"))}
        self.makes("rec a x num", "rec a x num", told, {}, [])

    def test_others_rest_on_told_ways(self):
        first = "rec a x num\nrec b y a\nalt c t a"
        told = {"a": ("z", term_of("(rec z x)"))}
        self.makes(first, "rec z q num\nrec b y z\nalt c t z", told,
                   {"b": ("b", term_of("(rec b y)")), "c": ("c", (("t", ("tag", "c", "t", IT)),))}, [])
        self.makes(first, "rec z q num\nrec a x num\nrec b y a\nalt c t a", told, {}, ["b", "c"])
        told = {"a": ("num", ("box", "x"))}
        self.makes(first, "rec b y num\nalt c t num", told,
                   {"b": ("b", term_of("(rec b y)")), "c": ("c", (("t", ("tag", "c", "t", IT)),))}, [])
        self.makes(first, "rec a x num\nrec b y a\nalt c t num", told,
                   {"c": ("c", (("t", ("tag", "c", "t", IT)),))}, ["b"])

    def test_a_told_way_of_a_kind_behind_others(self):
        first = "rec a x num\nrec b y a\nrec c z b"
        told = {"b": ("b", term_of("(rec b (get y x))"))}
        self.makes(first, "rec a x num\nrec b y num\nrec c z b", told,
                   {"a": ("a", term_of("(rec a x)")), "c": ("c", term_of("(rec c z)"))}, [])

    def test_a_field_that_goes_to_the_kind_asked_for_by_another_name(self):
        # Two kinds that go to one: each field is asked for its own kind's end.
        told = {"a": ("z", ("rec", "z", ())), "b": ("z", ("rec", "z", ()))}
        self.makes("rec a\nrec b\nrec c x a y b", "rec z\nrec c x z y z", told,
                   {"c": ("c", term_of("(rec c x y)"))}, [])

    def test_the_whole(self):
        ways = {"none": ("none", ("rec", "none", ()))}
        self.makes(FIRST, SECOND, {}, ways, ["pt", "sign", "line", "shape"])
        told = {"pt": RIGHT["pt"]}
        ways.update({"line": ("line", term_of("(rec line a 0)")),
                     "shape": ("shape", tuple((t, ("tag", "shape", t, IT)) for t in ["dot", "far", "not"]))})
        self.makes(FIRST, SECOND, told, ways, ["sign"])

    def test_told_ways_changed_behind_the_call(self):
        told = dict(RIGHT)
        ways, lacking = made_ways(FIRST, SECOND, told)
        told.clear()
        self.assertEqual(ways, RIGHT)


def random_kinds(source):
    """Kinds that are let by, of few names, so that two makes share some."""
    kinds = []
    for name in source.sample(["a", "b", "c", "d", "e", "f"], source.randint(0, 6)):
        sort = source.choice(["rec", "alt"])
        ahead = ["num", "num"] + [kind[0] for kind in kinds]
        many = source.randint(1 if sort == "alt" else 0, 3)
        parts = tuple((part, source.choice(ahead)) for part in source.sample(["x", "y", "z", "w"], many))
        kinds.append((name, sort, parts))
    return (tuple(kinds), (), ())


def varied(source, make):
    """Kinds with a part dropped, added, turned about or of another kind here and there, let by as well."""
    kinds = []
    for name, sort, parts in make[0]:
        parts = list(parts)
        ahead = ["num"] + [kind[0] for kind in kinds]
        change = source.randrange(6)
        if change == 0 and len(parts) > 1:
            parts.pop(source.randrange(len(parts)))
        if change == 1:
            parts.insert(source.randrange(len(parts) + 1), ("new", source.choice(ahead)))
        if change == 2:
            source.shuffle(parts)
        if change == 3 and parts:
            parts[0] = (parts[0][0], source.choice(ahead))
        kinds.append((name, sort, tuple(parts)))
    return (tuple(kinds), (), ())


class Chance(unittest.TestCase):
    def test_ways_by_rules_are_right(self):
        source = random.Random(71)
        made = {True: 0, False: 0}
        for _ in range(400):
            first = random_kinds(source)
            second = varied(source, first) if source.randrange(2) else random_kinds(source)
            try:
                look(first)
                look(second)
            except SwapError:
                continue
            ways, lacking = made_ways(first, second, {})
            self.assertIs(look_ways(first, second, ways), True)
            self.assertEqual([kind[0] for kind in first[0] if kind[0] not in ways], lacking)
            for kind in first[0]:
                made[kind[0] in ways] += 1
                self.check_rule(kind, dict((each[0], each) for each in second[0]), ways)
        self.assertGreater(min(made.values()), 200)

    def check_rule(self, kind, seconds, ways):
        """A way is there just where the rule says so, told here once more."""
        K, sort, parts = kind
        over = {"num": "num", **{other: other for other in ways}}
        there = K in seconds and seconds[K][1] == sort
        if there and sort == "rec":
            own = dict(parts)
            there = all(f not in own or over.get(own[f]) == inner for f, inner in seconds[K][2])
        elif there:
            theirs = dict(seconds[K][2])
            there = all(t in theirs and inner in over and over[inner] == theirs[t] for t, inner in parts)
        self.assertIs(K in ways, there)
