"""Ways over for places [2], [21], [22]."""

import copy
import itertools
import random
import unittest

from swapstride.bricks import term_of
from swapstride.errors import Lacks, NoCount, NoName, SwapError, Twice, WrongKind
from swapstride.looker import look
from swapstride.makes import hand_of, mark_row
from swapstride.places import look_place, made_places
from swapstride.reader import read
from swapstride.terms import nought_term
from swapstride.ways import look_ways, made_ways
from tests.chance import right_over

# The kind pt goes over to spot, flag to num, and old doesn't go over.
FIRST = read("""rec pt x num y num
rec old n num
alt flag up num down num
channel c one two pt
channel d two one num
channel e one two flag
hand one
box n num
box m num
take k d n
send c (rec pt n m)
take j d m
go 0
hand two
box p pt
box o old
box f flag
box n num
take l c p
tell (get p x)
take m e f
send d n
go 0""")
SECOND = read("""rec spot x num y num z num
alt only one num
channel c one two spot
channel d two one num
channel e one two num
hand one
box n num
take k d n
take q d n
go 0
hand two
box s spot
box u num
box o only
take l c s
tell u
take i e u
go 0""")
WAYS = {"pt": ("spot", term_of("(rec spot x y 7)")),
        "flag": ("num", (("up", ("box", "it")), ("down", ("num", 0))))}

P = ("box", "p")
ONLY = term_of("(tag only one 1)")
# A way of the place (two, l) that is right.
RIGHT = ("l", (("s", P), ("u", ("box", "n")), ("o", ONLY)))


def sets(s="p", u="n", o="(tag only one 1)"):
    """The sets of a way of a place of the hand two."""
    return (("s", term_of(s)), ("u", term_of(u)), ("o", term_of(o)))


class Looking(unittest.TestCase):
    def lets_by(self, h, l, way, ways=WAYS, first=FIRST, second=SECOND):
        with self.subTest(h=h, l=l, way=way):
            before = copy.deepcopy(ways)
            for _ in range(2):
                self.assertIs(look_place(first, second, ways, h, l, way), True)
            self.assertEqual(list(ways.items()), list(before.items()))

    def refused(self, refusal, h, l, way, ways=WAYS, first=FIRST, second=SECOND):
        with self.subTest(h=h, l=l, way=way):
            before = copy.deepcopy(ways)
            for _ in range(2):
                with self.assertRaises(SwapError) as seen:
                    look_place(first, second, ways, h, l, way)
                self.assertIs(type(seen.exception), refusal)
            self.assertEqual(list(ways.items()), list(before.items()))


class LetBy(Looking):
    def test_the_makes_and_ways_here(self):
        self.assertIs(look(FIRST), True)
        self.assertIs(look(SECOND), True)
        self.assertIs(look_ways(FIRST, SECOND, WAYS), True)

    def test_by_the_names_of_its_arguments(self):
        told = look_place(first=FIRST, second=SECOND, ways=WAYS, h="two", l="l", way=RIGHT)
        self.assertIs(told, True)

    def test_each_place_to_each_mark(self):
        for l, l2 in itertools.product("lm", "li"):
            self.lets_by("two", l, (l2, RIGHT[1]))
        for l, l2 in itertools.product("kj", "kq"):
            self.lets_by("one", l, (l2, (("n", ("box", "m")),)))

    def test_terms_of_each_form(self):
        for s in ["p", "(rec spot 1 2 3)", "(rec spot (get p z) n f)", "(if f p p)",
                  "(case (tag only one 3) (one q (rec spot q q q)))"]:
            for u in ["0", "4294967295", "n", "f", "(+ n f)", "(get p z)", "(if n 1 2)",
                      "(case (tag only one 3) (one q q))"]:
                for o in ["(tag only one n)", "(tag only one (get p y))", "(if n (tag only one 1) (tag only one f))"]:
                    self.lets_by("two", "l", ("i", sets(s, u, o)))

    def test_boxes_have_the_kinds_to_which_they_go(self):
        # By other ways p is an alt of one tag.
        ways = {"pt": ("only", term_of("(tag only one x)")), "old": ("spot", term_of("(rec spot n n n)"))}
        self.lets_by("two", "l", ("l", sets("o", "(case p (one q q))", "p")), ways)
        self.refused(WrongKind, "two", "l", ("l", sets("p")), ways)
        self.refused(WrongKind, "two", "l", ("l", sets("o", "n", "o")), ways)
        self.refused(NoName, "two", "l", ("l", sets("o", "f", "p")), ways)

    def test_an_arms_box_called_like_one_that_does_not_go_over(self):
        self.lets_by("two", "l", ("l", sets(u="(case (tag only one 3) (one o o))")))
        self.lets_by("two", "l", ("l", sets(u="(case (tag only one 3) (one f f))")), {"pt": WAYS["pt"]})
        # So is one called like a box of the second make's hand alone.
        self.lets_by("two", "l", ("l", sets(u="(case (tag only one 3) (one s s))")))
        self.lets_by("two", "l", ("l", sets(u="(case (tag only one 3) (one u u))")))

    def test_names_that_are_the_same_among_hands_marks_and_boxes(self):
        text = "rec a a num\nchannel a a b a\nchannel b b a num\nhand a\nbox b num\ntake a b b\ngo 0\nhand b\n"
        first = read(text + "box a a\nbox b num\ntake a a a\ntell b\ntake b a a\ngo 0")
        second = read(text + "box b num\nbox a a\ntake b a a\ngo 0")
        ways = made_ways(first, second, {})[0]
        swapped = (("b", ("get", ("box", "a"), "a")), ("a", ("rec", "a", (("box", "b"),))))
        for l in ["a", "b"]:
            self.lets_by("b", l, ("b", swapped), ways, first, second)
            self.refused(NoName, "b", l, ("a", swapped), ways, first, second)
        self.refused(NoName, "a", "b", ("a", (("b", ("box", "b")),)), ways, first, second)
        self.lets_by("a", "a", ("a", (("b", ("box", "b")),)), ways, first, second)


class Names(Looking):
    def test_a_hand_that_is_not_there(self):
        for h in ["zz", "p", "c", "l", "pt"]:
            self.refused(NoName, h, "l", RIGHT)

    def test_a_hand_of_one_make_alone(self):
        second = (SECOND[0], SECOND[1], SECOND[2] + (("three",) + SECOND[2][1][1:],))
        self.refused(NoName, "three", "l", RIGHT, second=second)
        first = (FIRST[0], FIRST[1], FIRST[2] + (("three",) + FIRST[2][1][1:],))
        self.refused(NoName, "three", "l", RIGHT, first=first)
        self.lets_by("three", "l", RIGHT, first=first, second=second)

    def test_a_mark_of_the_first_make_that_is_not_there(self):
        # None at all; one of another hand; one of the second make's hand; names of another sort.
        for l in ["zz", "k", "j", "i", "q", "p", "c", "two"]:
            self.refused(NoName, "two", l, RIGHT)
        for l in ["l", "m", "q", "zz"]:
            self.refused(NoName, "one", l, ("k", (("n", ("box", "n")),)))

    def test_a_mark_of_the_second_make_that_is_not_there(self):
        # None at all; one of another hand; one of the first make's hand; names of another sort.
        for l2 in ["zz", "k", "q", "m", "j", "s", "c", "two"]:
            self.refused(NoName, "two", "l", (l2, RIGHT[1]))
        for l2 in ["l", "i", "j", "zz"]:
            self.refused(NoName, "one", "k", (l2, (("n", ("box", "n")),)))

    def test_marks_of_rows_that_are_no_takes(self):
        first = read("channel c h h num\nhand h\nbox n num\nsend c n\ntell n\ntake m c n\ngo 0")
        for l in ["c", "n"]:
            self.refused(NoName, "h", l, ("m", (("n", ("box", "n")),)), {}, first, first)
            self.refused(NoName, "h", "m", (l, (("n", ("box", "n")),)), {}, first, first)


class Boxes(Looking):
    def test_one_fewer(self):
        for left in itertools.combinations(RIGHT[1], 2):
            self.refused(Lacks, "two", "l", ("l", left))
        for each in RIGHT[1]:
            self.refused(Lacks, "two", "l", ("l", (each,)))
        self.refused(Lacks, "two", "l", ("l", ()))
        self.refused(Lacks, "one", "k", ("k", ()))

    def test_one_more(self):
        for at in range(4):
            for more in [("z", ("num", 1)), ("p", P), ("n", ("box", "n")), RIGHT[1][0], RIGHT[1][-1]]:
                self.refused(Lacks, "two", "l", ("l", RIGHT[1][:at] + (more,) + RIGHT[1][at:]))

    def test_turned_about(self):
        for order in itertools.permutations(RIGHT[1]):
            if order != RIGHT[1]:
                self.refused(Lacks, "two", "l", ("l", order))

    def test_of_another_name(self):
        for at, (_, term) in enumerate(RIGHT[1]):
            for x in ["zz", "p", "n", "s", "u", "o", "it", "f"]:
                if x != RIGHT[1][at][0]:
                    self.refused(Lacks, "two", "l", ("l", RIGHT[1][:at] + ((x, term),) + RIGHT[1][at + 1:]))

    def test_the_first_makes_boxes(self):
        self.refused(Lacks, "two", "l", ("l", (("p", P), ("o", ONLY), ("f", ("num", 1)), ("n", ("num", 1)))))
        self.refused(Lacks, "one", "k", ("k", (("n", ("box", "n")), ("m", ("box", "m")))))


class Terms(Looking):
    def each(self, refusal, text):
        """A term refused for each box by itself."""
        for x in ["s", "u", "o"]:
            self.refused(refusal, "two", "l", ("l", sets(**{x: text})))

    def test_of_another_kind(self):
        for s in ["n", "1", "f", "(tag only one 1)"]:
            self.refused(WrongKind, "two", "l", ("l", sets(s=s)))
        for u in ["p", "(rec spot 1 2 3)", "(tag only one 1)"]:
            self.refused(WrongKind, "two", "l", ("l", sets(u=u)))
        for o in ["p", "n", "1", "f"]:
            self.refused(WrongKind, "two", "l", ("l", sets(o=o)))
        self.refused(WrongKind, "one", "k", ("k", (("n", term_of("(rec spot 1 2 3)")),)))

    def test_numbers_of_wide_and_more(self):
        for n in [4294967296, 4294967297, 9999999999]:
            self.refused(WrongKind, "two", "l", ("l", sets(u=str(n))))
            self.refused(WrongKind, "two", "l", ("l", sets(s=f"(rec spot 1 2 {n})")))
            self.refused(WrongKind, "two", "l", ("l", sets(o=f"(tag only one {n})")))

    def test_a_box_that_is_not_at_hand(self):
        # None at all; one of another hand; one of the second make's hand; a field's name.
        for x in ["zz", "m", "s", "u", "x", "pt"]:
            self.each(NoName, x)
        self.refused(NoName, "two", "l", ("l", sets(u="(+ 1 s)")))
        self.refused(NoName, "one", "k", ("k", (("n", P),)))
        self.refused(NoName, "two", "l", ("l", RIGHT[1][:1] + (("u", ("box", "it")),) + RIGHT[1][2:]))

    def test_a_box_whose_kind_does_not_go_over(self):
        self.each(NoName, "o")
        self.refused(NoName, "two", "l", ("l", sets(u="(get o n)")))
        self.lets_by("two", "l", ("l", sets(u="f")))
        self.refused(NoName, "two", "l", ("l", sets(u="f")), {"pt": WAYS["pt"]})
        self.refused(NoName, "two", "l", RIGHT, {"flag": WAYS["flag"]})
        self.refused(NoName, "two", "l", RIGHT, {})

    def test_an_arms_box_that_is_at_hand_already(self):
        for x in ["p", "f", "n"]:
            self.refused(Twice, "two", "l", ("l", sets(u=f"(case (tag only one 3) (one {x} 1))")))
            self.refused(Twice, "two", "l", ("l", sets(s=f"(case (tag only one 3) (one {x} (rec spot 1 2 3)))")))
            self.refused(Twice, "two", "l", ("l", sets(o=f"(case (tag only one 3) (one {x} (tag only one 1)))")))

    def test_kinds_of_the_first_make(self):
        self.each(NoName, "(rec pt 1 2)")
        self.each(NoName, "(tag flag up 1)")
        self.refused(NoName, "two", "l", ("l", sets(u="(get (rec old 1) n)")))

    def test_whatever_terms_are_refused_by(self):
        for refusal, text in [(NoCount, "(rec spot 1)"), (Lacks, "(case (tag mix a 1) (a q 1))"),
                              (Twice, "(case (tag only one 1) (one q 1) (one q 1))"), (NoName, "(get p w)"),
                              (WrongKind, "(+ 1 p)"), (WrongKind, "(rec only 1)"), (WrongKind, "(tag spot x 1)"),
                              (NoName, "(rec zz)"), (NoName, "(tag only two 1)"), (WrongKind, "(if p 1 2)")]:
            second = (SECOND[0] + (("mix", "alt", (("a", "num"), ("b", "num"))),), SECOND[1], SECOND[2])
            for x in ["s", "u", "o"]:
                self.refused(refusal, "two", "l", ("l", sets(**{x: text})), second=second)


class Order(Looking):
    """Two faults at once: the one that is first in the order decides."""

    NAMES = [("zz", "l", "l"), ("two", "zz", "l"), ("two", "l", "zz"), ("two", "k", "l"), ("two", "l", "m"),
             ("zz", "zz", "zz"), ("two", "zz", "zz")]
    BOXES = [(), RIGHT[1][:2], RIGHT[1][1:], RIGHT[1] + (("z", ("num", 1)),), tuple(reversed(RIGHT[1]))]
    TERMS = [(WrongKind, "u", ("num", 4294967296)), (WrongKind, "u", P), (NoName, "u", ("box", "zz")),
             (NoName, "u", ("box", "o")), (Twice, "u", term_of("(case (tag only one 3) (one p 1))")),
             (NoCount, "u", term_of("(rec spot)"))]

    def test_names_ahead_of_boxes(self):
        for (h, l, l2), boxes in itertools.product(self.NAMES, self.BOXES):
            self.refused(NoName, h, l, (l2, boxes))

    def test_names_ahead_of_terms(self):
        for (h, l, l2), (_, x, term) in itertools.product(self.NAMES, self.TERMS):
            wrong = tuple((each, term if each == x else old) for each, old in RIGHT[1])
            self.refused(NoName, h, l, (l2, wrong))

    def test_boxes_ahead_of_terms(self):
        for boxes, (refusal, x, term) in itertools.product(self.BOXES[1:], self.TERMS):
            wrong = tuple((each, term if each == x else old) for each, old in boxes)
            self.refused(Lacks, "two", "l", ("l", wrong))
            self.refused(refusal, "two", "l", ("l", tuple((e, term if e == x else old) for e, old in RIGHT[1])))

    def test_boxes_ahead_of_terms_for_each_box(self):
        for x in ["s", "u", "o"]:
            for term in [("box", "zz"), ("num", 4294967296)]:
                wrong = tuple((each, term if each == x else old) for each, old in RIGHT[1])
                self.refused(Lacks, "two", "l", ("l", wrong + (("z", term),)))
                self.refused(Lacks, "two", "l", ("l", tuple(reversed(wrong))))
                self.refused(Lacks, "two", "l", ("l", (("p", term),) + wrong[1:]))


def hand_text(boxes, marks):
    """A make of one hand with those boxes, and takes of those marks into its box n."""
    rows = "".join(f"take {l} c n\n" for l in marks.split())
    inner = "".join(f"box {box}\n" for box in ["n num"] + [each for each in boxes.split(", ") if each])
    return f"channel c h h num\nhand h\n{inner}{rows}end"


class Making(unittest.TestCase):
    def makes(self, first, second, told, places, lacking, ways=None):
        """places are those made by rules; told ones are there beside them."""
        first = read(first) if isinstance(first, str) else first
        second = read(second) if isinstance(second, str) else second
        look(first)
        look(second)
        ways = made_ways(first, second, {})[0] if ways is None else ways
        with self.subTest(first=first, second=second, told=told):
            before = copy.deepcopy((told, ways))
            found = made_places(first, second, ways, told)
            self.assertIs(type(found), tuple)
            self.assertEqual([type(each) for each in found], [dict, list])
            self.assertEqual(found, ({**told, **places}, lacking))
            for (h, l), way in found[0].items():
                self.assertIs(look_place(first, second, ways, h, l, way), True)
            found[0].clear()
            found[1].append("more")
            self.assertEqual(made_places(first=first, second=second, ways=ways, told=told),
                             ({**told, **places}, lacking))
            self.assertEqual((list(told.items()), list(ways.items())), tuple(list(each.items()) for each in before))


class ByRules(Making):
    N = ("n", ("box", "n"))

    def test_nothing_at_all(self):
        self.makes("", "", {}, {}, [])

    def test_no_takes(self):
        self.makes("hand h\nend", "hand h\nend", {}, {}, [])
        self.makes("hand h\nend", hand_text("", "a b"), {}, {}, [])
        self.makes("channel c h h num\nhand h\nbox n num\nsend c n\ntell n\ngo 0", hand_text("", "a"), {}, {}, [])

    def test_boxes_the_same(self):
        self.makes(hand_text("", "a"), hand_text("", "a"), {}, {("h", "a"): ("a", (self.N,))}, [])
        text = hand_text("m num, o num", "a b")
        way = (self.N, ("m", ("box", "m")), ("o", ("box", "o")))
        self.makes(text, text, {}, {("h", "a"): ("a", way), ("h", "b"): ("b", way)}, [])

    def test_boxes_more(self):
        place = {("h", "a"): ("a", (self.N, ("m", ("num", 0))))}
        self.makes(hand_text("", "a"), hand_text("m num", "a"), {}, place, [])
        kinds = "rec e\nrec p x num y num\nalt w on p off e\n"
        self.makes(kinds + hand_text("", "a"), kinds + hand_text("e e, p p, w w", "a"), {},
                   {("h", "a"): ("a", (self.N, ("e", ("rec", "e", ())), ("p", term_of("(rec p 0 0)")),
                                       ("w", term_of("(tag w on (rec p 0 0))"))))}, [])

    def test_boxes_of_a_kind_that_the_second_make_alone_has(self):
        second = "rec p x num\n" + hand_text("p p", "a")
        self.makes(hand_text("", "a"), second, {}, {("h", "a"): ("a", (self.N, ("p", term_of("(rec p 0)"))))}, [])

    def test_boxes_fewer(self):
        self.makes(hand_text("m num, o num", "a"), hand_text("", "a"), {}, {("h", "a"): ("a", (self.N,))}, [])
        self.makes(hand_text("m num, o num", "a"), hand_text("o num", "a"), {},
                   {("h", "a"): ("a", (self.N, ("o", ("box", "o"))))}, [])
        # One that doesn't go over is lost as any other.
        self.makes("rec p\n" + hand_text("p p", "a"), hand_text("", "a"), {}, {("h", "a"): ("a", (self.N,))}, [])

    def test_boxes_turned_about(self):
        self.makes(hand_text("m num, o num", "a"), hand_text("o num, m num", "a"), {},
                   {("h", "a"): ("a", (self.N, ("o", ("box", "o")), ("m", ("box", "m"))))}, [])

    def test_boxes_more_fewer_and_turned_about(self):
        self.makes(hand_text("m num, o num, p num", "a"), hand_text("z num, p num, m num", "a"), {},
                   {("h", "a"): ("a", (self.N, ("z", ("num", 0)), ("p", ("box", "p")), ("m", ("box", "m"))))}, [])

    def test_boxes_of_a_kind_to_which_they_do_not_go(self):
        lacks = [("h", "a"), ("h", "b")]
        kinds = "rec p x num\nrec q x num\n"
        for old, new in [("m num", "m p"), ("m p", "m num"), ("m p", "m q"), ("m q", "m p"), ("o num, m p", "m num")]:
            self.makes(kinds + hand_text(old, "a b"), kinds + hand_text(new, "a b"), {}, {}, lacks)

    def test_boxes_of_a_kind_that_lacks_a_way(self):
        lacks = [("h", "a")]
        own = hand_text("m p", "a")
        self.makes("rec p x num\n" + own, hand_text("m num", "a"), {}, {}, lacks)
        self.makes("rec p x num\n" + own, "alt p x num\n" + own, {}, {}, lacks)
        self.makes("alt p x num y num\n" + own, "alt p x num\n" + own, {}, {}, lacks)

    def test_boxes_of_kinds_by_told_ways(self):
        first = read("rec p x num\n" + hand_text("m p", "a"))
        ways = {"p": ("num", ("box", "x"))}
        place = {("h", "a"): ("a", (self.N, ("m", ("box", "m"))))}
        self.makes(first, hand_text("m num", "a"), {}, place, [], ways)
        self.makes(first, "rec p x num\n" + hand_text("m p", "a"), {}, {}, [("h", "a")], ways)
        ways = {"p": ("q", term_of("(rec q x)"))}
        self.makes(first, "rec q x num\n" + hand_text("m q", "a"), {}, place, [], ways)
        self.makes(first, "rec q x num\nrec p x num\n" + hand_text("m p", "a"), {}, {}, [("h", "a")], ways)

    def test_marks_that_the_second_makes_hand_lacks(self):
        way = (self.N,)
        self.makes(hand_text("", "a b d"), hand_text("", "b"), {}, {("h", "b"): ("b", way)}, [("h", "a"), ("h", "d")])
        self.makes(hand_text("", "a b d"), hand_text("", "e f"), {}, {}, [("h", "a"), ("h", "b"), ("h", "d")])
        self.makes(hand_text("", "a"), "channel c h h num\nhand h\nend", {}, {}, [("h", "a")])
        self.makes(hand_text("", "a"), hand_text("", "b d a"), {}, {("h", "a"): ("a", way)}, [])

    def test_marks_of_another_hand(self):
        text = "channel c g h num\nchannel d h g num\nhand g\nbox n num\n{}end\nhand h\nbox n num\n{}end"
        first = text.format("take a d n\n", "take b c n\n")
        self.makes(first, text.format("take b d n\n", "take a c n\n"), {}, {}, [("g", "a"), ("h", "b")])
        both = {("g", "a"): ("a", (self.N,)), ("h", "b"): ("b", (self.N,))}
        self.makes(first, text.format("take b d n\ntake a d n\n", "take a c n\ntake b c n\n"), {}, both, [])

    def test_a_take_of_another_channel_or_into_another_box(self):
        first = "channel c h h num\nchannel d h h num\nhand h\nbox n num\nbox m num\ntake a c n\nend"
        second = "channel c h h num\nchannel d h h num\nhand h\nbox n num\nbox m num\ntell 3\ntake a d m\nend"
        self.makes(first, second, {}, {("h", "a"): ("a", (self.N, ("m", ("box", "m"))))}, [])

    def test_lacking_hands_in_order_marks_in_the_order_of_the_rows(self):
        text = ("channel c z z num\nchannel d y y num\nchannel e x x num\nhand z\nbox n num\n{}end\nhand y\n"
                "box n num\n{}end\nhand x\nbox n num\n{}end")
        first = text.format("take f c n\ntell n\ntake b c n\n", "take b d n\ntake a d n\n", "take d e n\ntake c e n\n")
        lacks = [("z", "f"), ("z", "b"), ("y", "b"), ("y", "a"), ("x", "d"), ("x", "c")]
        self.makes(first, text.format("", "", ""), {}, {}, lacks)
        self.makes(first, text.format("", "take a d n\n", ""), {}, {("y", "a"): ("a", (self.N,))},
                   lacks[:3] + lacks[4:])

    def test_one_hand_with_ways_beside_one_without(self):
        text = ("channel c g g num\nchannel d h h num\nhand g\nbox n num\n{}take a c n\nend\nhand h\nbox n num\n"
                "{}take a d n\nend")
        kinds = "rec p\n"
        one = {("g", "a"): ("a", (self.N,))}
        self.makes(kinds + text.format("", "box m p\n"), kinds + text.format("", "box m num\n"), {}, one, [("h", "a")])
        # Another hand's box of that name is no hindrance.
        self.makes(kinds + text.format("box m p\n", ""), kinds + text.format("", "box m num\n"), {},
                   {**one, ("h", "a"): ("a", (self.N, ("m", ("num", 0))))}, [])


class Told(Making):
    def test_kept_as_they_are(self):
        told = {("two", "l"): RIGHT, ("two", "m"): ("i", sets(u="(get p z)")),
                ("one", "k"): ("q", (("n", ("num", 3)),)), ("one", "j"): ("k", (("n", ("box", "m")),))}
        self.makes(FIRST, SECOND, told, {}, [], WAYS)
        self.makes(FIRST, SECOND, dict(reversed(told.items())), {}, [], WAYS)

    def test_the_others_by_rules(self):
        by_rules = {("one", "k"): ("k", (("n", ("box", "n")),))}
        lacks = [("one", "j"), ("two", "l"), ("two", "m")]
        self.makes(FIRST, SECOND, {}, by_rules, lacks, WAYS)
        self.makes(FIRST, SECOND, {("two", "m"): RIGHT}, by_rules, lacks[:2], WAYS)
        self.makes(FIRST, SECOND, {("one", "j"): ("q", (("n", ("box", "n")),))}, by_rules, lacks[1:], WAYS)

    def test_in_the_place_of_one_by_rules(self):
        for way in [("k", (("n", ("num", 9)),)), ("q", (("n", ("box", "m")),)), ("k", (("n", ("box", "n")),))]:
            self.makes(FIRST, SECOND, {("one", "k"): way}, {}, [("one", "j"), ("two", "l"), ("two", "m")], WAYS)

    def test_changed_behind_the_call(self):
        told = {("two", "l"): RIGHT}
        ways = dict(WAYS)
        places, lacking = made_places(FIRST, SECOND, ways, told)
        before = copy.deepcopy((places, lacking))
        told.clear()
        ways.clear()
        self.assertEqual((places, lacking), before)


class Chance(unittest.TestCase):
    def test_just_where_the_rule_says_so(self):
        source = random.Random(91)
        seen = {True: 0, False: 0}
        for _ in range(500):
            first, second, told, told_places = right_over(source)
            ways = made_ways(first, second, told)[0]
            places, lacking = made_places(first, second, ways, told_places)
            every = [(hand[0], row[1]) for hand in first[2] for row in hand[2] if row[0] == "take"]
            self.assertEqual(lacking, [place for place in every if place not in places])
            self.assertEqual(sorted(every), sorted([*places, *lacking]))
            for h, l in every:
                if (h, l) in told_places:
                    self.assertEqual(places[(h, l)], told_places[(h, l)])
                else:
                    seen[(h, l) in places] += 1
                    self.check_rule(first, second, ways, h, l, places.get((h, l)))
            for (h, l), way in places.items():
                self.assertIs(look_place(first, second, ways, h, l, way), True)
        self.assertGreater(min(seen.values()), 100)

    def check_rule(self, first, second, ways, h, l, way):
        over = {"num": "num", **{K: to[0] for K, to in ways.items()}}
        olds = dict(hand_of(first, h)[1])
        news = hand_of(second, h)[1]
        there = mark_row(second, h, l) is not None
        there = there and all(x not in olds or over.get(olds[x]) == kind for x, kind in news)
        terms = tuple((x, ("box", x) if x in olds else nought_term(second[0], kind)) for x, kind in news)
        self.assertEqual(way, (l, terms) if there else None)
