"""Makes written as their texts [2], [4], [5], [7], [8]."""

import random
import unittest

from swapstride.reader import read
from swapstride.writer import shown
from tests.test_bricks import PAIRS, WORD_NAMES, names, random_term
from tests.test_reader import BOX_ROWS, CHANNEL_ROWS, HAND_ROWS, KIND_ROWS, WHOLE, WHOLE_MAKE
from tests.test_reader import shown as told_again

A = ("box", "a")


def odd_things(thing):
    """All in a make that is no tuple, text or whole number."""
    if type(thing) is tuple:
        return [odd for each in thing for odd in odd_things(each)]
    return [] if type(thing) in (str, int) else [thing]


def hand(boxes, rows):
    """A make of one hand alone."""
    return ((), (), (("h", tuple(boxes), tuple(rows)),))


def random_row(source):
    numbers = [0, 1, 9, 10, 4294967295, 4294967296, 9999999999]
    form = source.choice(["set", "send", "take", "tell", "go", "if", "end"])
    if form in ("set", "send"):
        return (form, names(source), random_term(source, 4))
    if form == "take":
        return (form, names(source), names(source), names(source))
    if form == "tell":
        return (form, random_term(source, 4))
    if form == "go":
        return (form, source.choice(numbers))
    if form == "if":
        return (form, random_term(source, 4), source.choice(numbers))
    return ("end",)


def random_parts(source, fewest, most):
    return tuple((names(source), source.choice(["num", names(source)])) for _ in range(source.randint(fewest, most)))


def random_make(source):
    """A make of the forms told, seldom one that is let by."""
    kinds = []
    for _ in range(source.randrange(7)):
        sort = source.choice(["rec", "alt"])
        kinds.append((names(source), sort, random_parts(source, 1 if sort == "alt" else 0, 4)))
    channels = []
    for _ in range(source.randrange(7)):
        channels.append((names(source), names(source), names(source), source.choice(["num", names(source)])))
    hands = []
    for _ in range(source.randrange(5)):
        rows = tuple(random_row(source) for _ in range(source.randrange(9)))
        hands.append((names(source), random_parts(source, 0, 5), rows))
    return (tuple(kinds), tuple(channels), tuple(hands))


class Writing(unittest.TestCase):
    def shows(self, make, text):
        with self.subTest(text=text[:200]):
            self.assertEqual(shown(make), text)
            self.assertIs(type(shown(make)), str)
            found = read(shown(make))
            self.assertEqual(found, make)
            self.assertEqual(odd_things(found), [])
            # Asked again with the same, the same is told.
            self.assertEqual(shown(make), text)


class Shown(Writing):
    def test_the_make_without_all_three(self):
        self.shows(((), (), ()), "")

    def test_a_whole_make(self):
        self.shows(WHOLE_MAKE, WHOLE)

    def test_by_the_name_of_its_argument(self):
        self.assertEqual(shown(make=WHOLE_MAKE), WHOLE)

    def test_each_row_of_a_kind(self):
        for text, kind in KIND_ROWS:
            self.shows(((kind,), (), ()), text)
            self.shows(((kind, kind), (), ()), f"{text}\n{text}")

    def test_each_row_of_a_channel(self):
        for text, channel in CHANNEL_ROWS:
            self.shows(((), (channel,), ()), text)
            self.shows(((), (channel, channel), ()), f"{text}\n{text}")

    def test_each_row_of_a_box(self):
        for text, box in BOX_ROWS:
            self.shows(hand([box], []), f"hand h\n{text}")
            self.shows(hand([box, box], [("end",)]), f"hand h\n{text}\n{text}\nend")

    def test_each_row_of_a_hand(self):
        for text, row in HAND_ROWS:
            self.shows(hand([], [row]), f"hand h\n{text}")
            self.shows(hand([("a", "num")], [row, row]), f"hand h\nbox a num\n{text}\n{text}")

    def test_each_term_in_each_row(self):
        for term, text in PAIRS:
            self.shows(hand([], [("set", "a", term)]), f"hand h\nset a {text}")
            self.shows(hand([], [("send", "c", term)]), f"hand h\nsend c {text}")
            self.shows(hand([], [("tell", term)]), f"hand h\ntell {text}")
            self.shows(hand([], [("if", term, 3)]), f"hand h\nif {text} 3")

    def test_kinds_without_parts(self):
        self.shows(((("k", "rec", ()), ("j", "rec", ())), (), ()), "rec k\nrec j")

    def test_hands_without_boxes_and_without_rows(self):
        self.shows(((), (), (("h", (), ()), ("g", (), ()))), "hand h\nhand g")
        self.shows(hand([("a", "num")], []), "hand h\nbox a num")
        self.shows(hand([], [("end",)]), "hand h\nend")
        make = ((), (), (("h", (), ()), ("g", (("a", "k"),), ()), ("f", (), (("end",),)), ("e", (), ())))
        self.shows(make, "hand h\nhand g\nbox a k\nhand f\nend\nhand e")

    def test_kinds_alone_channels_alone_and_two_of_the_three(self):
        kind = ("k", "alt", (("a", "num"), ("b", "j")))
        channel = ("c", "h", "g", "k")
        one = ("h", (), ())
        self.shows(((kind,), (), (one,)), "alt k a num b j\nhand h")
        self.shows(((), (channel,), (one,)), "channel c h g k\nhand h")
        self.shows(((kind,), (channel,), ()), "alt k a num b j\nchannel c h g k")

    def test_the_order_is_kept(self):
        kinds = (("b", "rec", (("z", "num"), ("a", "num"))), ("a", "alt", (("y", "b"), ("x", "num"))), ("c", "rec", ()))
        channels = (("d", "g", "h", "num"), ("c", "h", "g", "a"))
        hands = (("h", (("z", "num"), ("a", "b")), (("go", 1), ("end",), ("go", 0))), ("g", (), (("end",),)))
        text = "rec b z num a num\nalt a y b x num\nrec c\nchannel d g h num\nchannel c h g a"
        text += "\nhand h\nbox z num\nbox a b\ngo 1\nend\ngo 0\nhand g\nend"
        self.shows((kinds, channels, hands), text)

    def test_names_that_are_words_of_the_texts(self):
        for w in WORD_NAMES:
            box = ("box", w)
            kinds = ((w, "rec", ((w, w), (w, w))), (w, "alt", ((w, "num"), (w, w))))
            rows = (("set", w, box), ("send", w, box), ("take", w, w, w), ("tell", box), ("if", box, 0),
                    ("tell", ("case", box, ((w, w, box),))), ("tell", ("rec", w, (box,))))
            make = (kinds, ((w, w, w, w),), ((w, ((w, w), (w, "num")), rows),))
            text = f"rec {w} {w} {w} {w} {w}\nalt {w} {w} num {w} {w}\nchannel {w} {w} {w} {w}\nhand {w}\nbox {w} {w}"
            text += f"\nbox {w} num\nset {w} {w}\nsend {w} {w}\ntake {w} {w} {w}\ntell {w}\nif {w} 0"
            text += f"\ntell (case {w} ({w} {w} {w}))\ntell (rec {w} {w})"
            self.shows(make, text)

    def test_numbers_up_to_ten_figures(self):
        for n in [0, 1, 10, 999999999, 1000000000, 4294967295, 4294967296, 9999999999]:
            rows = [("go", n), ("if", A, n), ("if", ("num", n), n), ("tell", ("num", n)), ("set", "a", ("num", n))]
            self.shows(hand([], rows), f"hand h\ngo {n}\nif a {n}\nif {n} {n}\ntell {n}\nset a {n}")

    def test_makes_that_the_looker_will_refuse(self):
        text = "rec k a no\nrec k\nchannel c no no no\nchannel c no no no\nhand h\nbox a no\nbox a num"
        text += "\nset b 9999999999\ngo 77\ntake l d e\ntake l d e\nhand h"
        make = ((("k", "rec", (("a", "no"),)), ("k", "rec", ())), (("c", "no", "no", "no"),) * 2, (
            ("h", (("a", "no"), ("a", "num")), (
                ("set", "b", ("num", 9999999999)), ("go", 77), ("take", "l", "d", "e"), ("take", "l", "d", "e"))),
            ("h", (), ())))
        self.shows(make, text)

    def test_brackets_twenty_deep_and_two_hundred_terms(self):
        term = A
        for _ in range(20):
            term = ("op", "+", ("num", 1), term)
        self.shows(hand([], [("if", term, 0)]), "hand h\nif " + "(+ 1 " * 20 + "a" + ")" * 20 + " 0")
        self.shows(hand([], [("tell", ("rec", "k", (A,) * 199))]), "hand h\ntell (rec k" + " a" * 199 + ")")

    def test_more_than_others_are_handed(self):
        kinds = tuple(("k", "rec", (("a", "num"),) * (k % 5)) for k in range(20))
        hands = tuple(("h", (("a", "num"),) * 12, (("go", 3),) * 60) for _ in range(10))
        make = (kinds, (("c", "h", "g", "num"),) * 20, hands)
        self.shows(make, told_again(make))

    def test_many_makes_of_chance(self):
        source = random.Random(5)
        for _ in range(300):
            make = random_make(source)
            self.shows(make, told_again(make))
