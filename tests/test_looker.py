"""Makes looked at [2], [4], [9], [11], [12]."""

import random
import unittest

from swapstride.bricks import term_of
from swapstride.errors import Falls, Lacks, NoCount, NoName, NotOwn, SwapError, TooBig, Twice, WrongKind
from swapstride.looker import look
from swapstride.reader import read
from tests.chance import right_make
from tests.test_kinds import KINDS, STEPS, TWELVE
from tests.test_makes import ALIKE
from tests.test_terms import BOXES, RIGHT, WRONG

# Three hands, each with a channel from it and to it, and a take.
BASE = read("""rec none
rec pt x num y num
alt way on pt off none by num
channel c ha hb pt
channel d hb ha num
channel e hc hc way
hand ha
box n num
box p pt
set n 1
send c p
take m d n
tell n
if n 0
go 0
hand hb
box n num
box p pt
take m c p
send d (get p x)
take k c p
if n 1
end
hand hc
box w way
box n num
box p pt
send e w
take m e w
set w (tag way by n)
go 0""")
HANDS = ["ha", "hb", "hc"]
FROM = ["c", "d", "e"]
TO = ["d", "c", "e"]
TO_BOX = ["n", "p", "w"]

# Rows with one fault each, whichever of the hands they stand in.
BAD_ROWS = {
    WrongKind: [
        "set n p", "set p n", "set p 1", "set n (rec pt 1 2)", "set n (tag way by 1)", "set n 4294967296",
        "set n (+ p 1)", "set p (rec pt 1 p)", "set p (rec none)", "set p (rec way)",
        "tell p", "tell (rec none)", "tell (tag way by 1)", "tell 4294967296", "tell (get n x)",
        "tell (case n (on x 1))",
        "tell (if p 1 2)", "tell (if 1 p n)", "if p 0", "if (rec pt 1 2) 1", "if 9999999999 0", "if (tag way by n) 0",
    ],
    NoName: [
        "set z 1", "set x 1", "set pt 1", "set c 1", "set ha 1", "set m 1", "set n z", "set n x", "set n pt",
        "set p (rec zz)", "set n (get p z)", "set n (get p on)", "tell z", "tell m", "tell c", "tell (+ n z)",
        "tell (case (tag way no 1) (on x 1) (off x 1) (by x 1))", "tell (case (tag zz by 1) (by x 1))", "if z 0",
        "if (+ 1 z) 0", "send z 1", "send ha p", "send hb n", "send m n", "send n n", "send pt p", "send x n",
        "take zz z n", "take zz n n", "take zz ha n", "take zz m p", "take zz zz p",
    ],
    NoCount: ["set p (rec pt)", "set p (rec pt 1)", "tell (get (rec pt 1 2 3) x)", "if (get (rec pt) y) 0"],
    Twice: [
        "tell (case (tag way by 1) (on x 1) (off x 1) (by n n))",
        "if (case (tag way by 1) (on p 1) (off x 1) (by x x)) 0",
        "set n (case (tag way by 1) (on x 1) (off x 1) (by x x) (by x x))",
    ],
    Lacks: ["tell (case (tag way by 1) (on x 1) (by x x))", "set n (case (tag way by 1) (off x 1))"],
}


def row_of(text):
    """The row that a text writes."""
    return read(f"hand h\n{text}")[2][0][2][0]


def put(things, path, thing):
    """A nest of tuples with a thing in the place of another."""
    if not path:
        return thing
    k = path[0]
    return things[:k] + (put(things[k], path[1:], thing),) + things[k + 1:]


def put_in(things, path, thing):
    """A nest of tuples with one thing more."""
    k = path[0]
    if len(path) == 1:
        return things[:k] + (thing,) + things[k:]
    return things[:k] + (put_in(things[k], path[1:], thing),) + things[k + 1:]


class Looking(unittest.TestCase):
    def lets_by(self, make):
        with self.subTest(make=make):
            self.assertIs(look(make), True)
            self.assertIs(look(make), True)

    def refused(self, refusal, make):
        with self.subTest(make=make):
            for _ in range(2):
                with self.assertRaises(SwapError) as seen:
                    look(make)
                self.assertIs(type(seen.exception), refusal)


class LetBy(Looking):
    def test_without_all_three_and_without_two(self):
        self.lets_by(((), (), ()))
        self.lets_by((KINDS, (), ()))
        self.lets_by(read("hand h\nend"))
        self.lets_by(read("hand h\ngo 0"))

    def test_ordinary_makes(self):
        self.lets_by(BASE)
        self.lets_by(ALIKE)

    def test_by_the_name_of_its_argument(self):
        self.assertIs(look(make=BASE), True)

    def test_each_kind_of_term_in_each_row(self):
        boxes = "".join(f"\nbox {x} {kind}" for x, kind in BOXES.items())
        for kind, texts in RIGHT.items():
            x = [each for each in BOXES if BOXES[each] == kind][0]
            for text in texts:
                rows = f"set {x} {text}\nsend c {text}\ntake m c {x}"
                if kind == "num":
                    rows += f"\ntell {text}\nif {text} 1"
                hands = read(f"hand h{boxes}\n{rows}\nend")[2]
                self.lets_by((KINDS, (("c", "h", "h", kind),), hands))

    def test_names_that_are_the_same_among_others(self):
        self.lets_by(read("rec a a num\nchannel a a a a\nhand a\nbox a a\nsend a a\ntake a a a\nset a (rec a (get a a))"
                          "\ntell (get a a)\ngo 0"))
        self.lets_by(read("hand ha\nbox a num\nset a 1\nend\nhand hb\nbox a num\nset a 2\nend"))

    def test_marks_of_one_name_in_two_hands(self):
        self.lets_by(read("channel c a b num\nchannel d b a num\nhand a\nbox x num\ntake m d x\nend\nhand b\nbox x num"
                          "\ntake m c x\nend"))

    def test_a_channel_taken_from_by_two_takes(self):
        self.lets_by(read("channel c a a num\nhand a\nbox x num\nbox y num\ntake l c x\ntake m c y\ntake n c x\nend"))

    def test_rows_that_are_never_come_to(self):
        self.lets_by(read("hand h\nend\ntell 1\nend\ngo 1\ngo 4"))
        self.lets_by(read("hand h\ngo 3\ngo 1\nif 0 0\nend"))

    def test_the_last_row_by_each_form_that_may_be_last(self):
        for last in ["end", "go 0", "go 1", "go 2"]:
            self.lets_by(read(f"hand h\ntell 1\ntell 2\n{last}"))

    def test_ways_to_the_last_row_and_to_itself(self):
        self.lets_by(read("hand h\ngo 3\nif 1 3\nif 1 2\nend"))
        self.lets_by(read("hand h\nif 1 0\nend"))

    def test_numbers_at_the_bound(self):
        self.lets_by(read("hand h\nbox n num\nset n 4294967295\ntell 0\nif 4294967295 0\nend"))

    def test_the_greatest_that_is_handed_in(self):
        tags = tuple((tag, "num") for tag in "abcd")
        kinds = tuple((name, "alt", tags) for name in ["ka", "kb", "kc", "kd", "ke", "kf"])
        channels = tuple((c, "ha", "hd", "kf") for c in "abcdef")
        rows = tuple(("send", c, ("box", "f")) for c in "abcdef") * 3 + (("tell", ("box", "n")),) * 5 + (("go", 23),)
        boxes = (("a", "ka"), ("b", "kb"), ("c", "kc"), ("f", "kf"), ("n", "num"))
        others = tuple((h, boxes, (("tell", ("num", 1)),) * 23 + (("end",),)) for h in ["hb", "hc", "hd"])
        self.lets_by((kinds, channels, (("ha", boxes, rows),) + others))

    def test_somewhat_more_than_is_handed_in(self):
        kinds = tuple((name, "rec", ()) for name in "abcdefghij")
        rows = (("tell", ("num", 1)),) * 60 + (("end",),)
        hands = tuple((h, tuple((x, "a") for x in "abcdefgh"), rows) for h in "abcdefgh")
        self.lets_by((kinds, tuple((c, "a", "b", "c") for c in "abcdefghij"), hands))

    def test_makes_of_chance(self):
        source = random.Random(31)
        for _ in range(150):
            self.lets_by(right_make(source))


class KindsAndNames(Looking):
    def test_kinds(self):
        for refusal, kind in [(Twice, ("pt", "rec", ())), (Twice, ("zz", "rec", (("a", "num"), ("a", "num")))),
                              (Twice, ("zz", "alt", (("a", "num"), ("b", "num"), ("a", "num")))),
                              (NoName, ("zz", "rec", (("a", "no"),))), (NoName, ("zz", "alt", (("a", "zz"),))),
                              (NoName, ("zz", "alt", (("a", "num"), ("b", "ha"))))]:
            for k in range(4):
                self.refused(refusal, put_in(BASE, [0, k], kind))

    def test_kinds_too_great(self):
        great = ("zz", "rec", (("a", "twelve"), ("b", "twelve"), ("c", "six")))
        for kinds in [(great,), (great, ("yy", "rec", ())), (("yy", "alt", (("a", "num"),)), great)]:
            self.refused(TooBig, (STEPS + kinds, (), ()))
        self.lets_by((STEPS + (("zz", "rec", (("a", "twelve"), ("b", "twelve"), ("c", "five"))),), (), ()))
        self.assertEqual(STEPS[-1], TWELVE)

    def test_two_hands_of_one_name(self):
        for h in HANDS:
            for k in range(4):
                self.refused(Twice, put_in(BASE, [2, k], (h, (), (("end",),))))
        self.refused(Twice, read("hand a\nend\nhand b\nend\nhand a\nend"))
        self.refused(Twice, read("hand a\nend\nhand a\nend"))

    def test_two_channels_of_one_name(self):
        for c in FROM:
            for k in range(4):
                self.refused(Twice, put_in(BASE, [1, k], (c, "hb", "ha", "num")))
                self.refused(Twice, put_in(BASE, [1, k], (c, "hc", "hc", "way")))

    def test_channels(self):
        for k in range(4):
            for ends in [("no", "ha", "num"), ("ha", "no", "num"), ("ha", "hb", "no"), ("no", "no", "no"),
                         ("c", "ha", "num"), ("ha", "pt", "num"), ("ha", "hb", "hb"), ("ha", "hb", "x"),
                         ("ha", "hb", "c"), ("ha", "hb", "rec")]:
                self.refused(NoName, put_in(BASE, [1, k], ("zz",) + ends))
            for ends in [("ha", "hb", "num"), ("ha", "ha", "way"), ("hc", "ha", "none")]:
                self.lets_by(put_in(BASE, [1, k], ("zz",) + ends))

    def test_a_channel_without_hands(self):
        self.refused(NoName, read("channel c a b num"))
        self.refused(NoName, read("channel c a b num\nhand a\nend"))
        self.refused(NoName, read("channel c a b num\nhand b\nend"))


class Hands(Looking):
    def test_two_boxes_of_one_name(self):
        for k, hand in enumerate(BASE[2]):
            for x, kind in hand[1]:
                for place in range(len(hand[1]) + 1):
                    self.refused(Twice, put_in(BASE, [2, k, 1, place], (x, kind)))
                    self.refused(Twice, put_in(BASE, [2, k, 1, place], (x, "none")))

    def test_a_box_whose_kind_is_not_there(self):
        for k, hand in enumerate(BASE[2]):
            for place in range(len(hand[1]) + 1):
                for kind in ["zz", "ha", "c", "x", "on", "n", "rec"]:
                    self.refused(NoName, put_in(BASE, [2, k, 1, place], ("zz", kind)))
                for kind in ["num", "pt", "way", "none"]:
                    self.lets_by(put_in(BASE, [2, k, 1, place], ("zz", kind)))

    def test_two_takes_of_one_mark(self):
        for k, hand in enumerate(BASE[2]):
            for place in range(len(hand[2])):
                take = ("take", "m", TO[k], TO_BOX[k])
                self.refused(Twice, put_in(BASE, [2, k, 2, place], take))
                self.lets_by(put_in(BASE, [2, k, 2, place], ("take", "mm", TO[k], TO_BOX[k])))
        self.refused(Twice, put_in(BASE, [2, 1, 2, 4], ("take", "k", "c", "p")))

    def test_boxes_of_another_hand_are_not_there(self):
        self.refused(NoName, read("hand a\nbox x num\nend\nhand b\ntell x\nend"))
        self.refused(NoName, read("hand a\ntell x\nend\nhand b\nbox x num\nend"))
        self.refused(NoName, read("hand a\nset x 1\nend\nhand b\nbox x num\nend"))
        self.refused(NoName, read("channel c b a num\nhand a\ntake m c x\nend\nhand b\nbox x num\nend"))


class Rows(Looking):
    def each_place(self, make, k):
        return range(len(make[2][k][2]) + 1)

    def test_the_base_with_right_rows_more(self):
        for k in range(3):
            for place in range(len(BASE[2][k][2])):
                for text in ["set n 2", "set n (get p y)", "tell n", "if n 0", "go 0", "end"]:
                    self.lets_by(put_in(BASE, [2, k, 2, place], row_of(text)))

    def test_each_bad_row_at_each_place(self):
        for refusal, texts in BAD_ROWS.items():
            for text in texts:
                for k in range(3):
                    for place in self.each_place(BASE, k):
                        self.refused(refusal, put_in(BASE, [2, k, 2, place], row_of(text)))

    def test_sends_and_takes_through_channels_of_other_hands(self):
        values = {"c": "p", "d": "n", "e": "(tag way by n)"}
        boxes = {"c": "p", "d": "n", "e": "w"}
        for k in range(3):
            for c in "cde":
                for place in self.each_place(BASE, k)[:-1]:
                    if c == FROM[k]:
                        self.lets_by(put_in(BASE, [2, k, 2, place], row_of(f"send {c} {values[c]}")))
                    else:
                        self.refused(NotOwn, put_in(BASE, [2, k, 2, place], row_of(f"send {c} {values[c]}")))
                    if c == TO[k]:
                        self.lets_by(put_in(BASE, [2, k, 2, place], row_of(f"take zz {c} {boxes[c]}")))
                    elif (c, k) not in [("e", 0), ("e", 1)]:
                        self.refused(NotOwn, put_in(BASE, [2, k, 2, place], row_of(f"take zz {c} {boxes[c]}")))

    def test_a_channel_may_be_taken_from_at_its_end_alone(self):
        text = "channel c a b num\nhand a\nbox x num\n{}\nend\nhand b\nbox x num\n{}\nend"
        self.lets_by(read(text.format("send c x", "take m c x")))
        self.refused(NotOwn, read(text.format("take m c x", "tell 0")))
        self.refused(NotOwn, read(text.format("tell 0", "send c x")))
        self.refused(NotOwn, read(text.format("send c x", "send c x")))
        self.refused(NotOwn, read(text.format("take m c x", "take m c x")))

    def test_sends_and_takes_of_another_kind(self):
        for k, values in enumerate([["n", "1", "(rec none)", "(tag way on p)"], ["p", "(rec pt 1 2)", "(rec none)"],
                                    ["p", "n", "(rec none)", "(get w on)"]]):
            for value in values:
                for place in self.each_place(BASE, k):
                    self.refused(WrongKind, put_in(BASE, [2, k, 2, place], row_of(f"send {FROM[k]} {value}")))
        for k, boxes in enumerate([["p"], ["n"], ["n", "p"]]):
            for x in boxes:
                for place in self.each_place(BASE, k):
                    self.refused(WrongKind, put_in(BASE, [2, k, 2, place], row_of(f"take zz {TO[k]} {x}")))

    def test_boxes_that_are_not_there_in_sends_and_takes(self):
        for k in range(3):
            for x in ["z", "c", "pt", "ha", "m", "on"]:
                for place in self.each_place(BASE, k):
                    self.refused(NoName, put_in(BASE, [2, k, 2, place], row_of(f"send {FROM[k]} {x}")))
                    self.refused(NoName, put_in(BASE, [2, k, 2, place], row_of(f"take zz {TO[k]} {x}")))

    def test_each_refusal_of_terms_in_each_row(self):
        boxes = "".join(f"\nbox {x} {kind}" for x, kind in BOXES.items())
        for refusal, texts in WRONG.items():
            for text in texts:
                for row in [f"set n {text}", f"set p {text}", f"send c {text}", f"tell {text}", f"if {text} 0"]:
                    hands = read(f"hand h{boxes}\n{row}\nend")[2]
                    self.refused(refusal, (KINDS, (("c", "h", "h", "num"),), hands))

    def test_a_row_that_is_never_come_to(self):
        self.refused(NoName, read("hand h\nend\ntell z\nend"))
        self.refused(WrongKind, read("rec k\nhand h\ngo 2\ntell (rec k)\nend"))

    def test_two_kinds_of_the_same_parts_are_not_the_same(self):
        text = "rec a x num\nrec b x num\nchannel c h h a\nhand h\nbox a a\nbox b b\n{}\nend"
        for row in ["set a b", "set b (rec a 1)", "send c b", "take m c b"]:
            self.refused(WrongKind, read(text.format(row)))
        for row in ["set a (rec a (get b x))", "send c a", "take m c a"]:
            self.lets_by(read(text.format(row)))


class Leading(Looking):
    def test_no_rows(self):
        self.refused(Falls, read("hand h"))
        self.refused(Falls, read("hand h\nbox a num"))
        for k in range(4):
            self.refused(Falls, put_in(BASE, [2, k], ("zz", (), ())))
        for k in range(3):
            self.refused(Falls, put(BASE, [2, k, 2], ()))

    def test_last_rows_that_are_neither_an_end_nor_a_go(self):
        rows = [["set n 1", "send c p", "take zz d n", "tell n", "if n 0", "if 1 0"],
                ["set n 1", "send d n", "take zz c p", "tell n", "if n 0", "if 1 0"],
                ["set n 1", "send e w", "take zz e w", "tell n", "if n 0", "if 1 0"]]
        for k, texts in enumerate(rows):
            for text in texts:
                many = len(BASE[2][k][2])
                self.refused(Falls, put_in(BASE, [2, k, 2, many], row_of(text)))
                self.refused(Falls, put(BASE, [2, k, 2, many - 1], row_of(text)))
                self.refused(Falls, put(BASE, [2, k, 2], (row_of(text),)))

    def test_ways_to_no_row_at_each_place(self):
        for k in range(3):
            many = len(BASE[2][k][2])
            for place in range(many + 1):
                # By one row more the rows are those up to many.
                for to in [many + 1, many + 2, 24, 99, 4294967295, 4294967296, 9999999999]:
                    self.refused(Falls, put_in(BASE, [2, k, 2, place], ("go", to)))
                    self.refused(Falls, put_in(BASE, [2, k, 2, place], ("if", ("num", 0), to)))
                for to in range(many + 1):
                    self.lets_by(put_in(BASE, [2, k, 2, place], ("go", to)))

    def test_an_if_amid_to_each_row(self):
        for to in range(3):
            self.lets_by(read(f"hand h\ntell 0\nif 1 {to}\nend"))
        for to in [3, 4, 9999999999]:
            self.refused(Falls, read(f"hand h\ntell 0\nif 1 {to}\nend"))

    def test_a_row_that_is_never_come_to(self):
        self.refused(Falls, read("hand h\nend\ntell 1"))
        self.refused(Falls, read("hand h\nend\ngo 2"))
        self.refused(Falls, read("hand h\ngo 0\nif 0 7\nend"))


def faults():
    """Faults with the ranks by which they go ahead of one another: (rank, refusal, what makes them)."""
    found = []

    def fault(rank, refusal, path, thing):
        found.append((rank, refusal, lambda make: put_in(make, path, thing)))

    for k in [0, 3]:
        fault((0, k), Twice, [0, k], ("zz", "rec", (("a", "num"), ("a", "num"))))
        fault((0, k), NoName, [0, k], ("zy", "rec", (("a", "zy"),)))
    fault((0, 9), Twice, [0, 3], ("pt", "rec", ()))
    for k in [0, 3]:
        fault((1,), Twice, [2, k], ("hb", (), (("end",),)))
        fault((1,), Twice, [1, k], ("d", "hb", "ha", "num"))
    for k in [0, 3]:
        fault((2,), NoName, [1, k], ("zz", "no", "ha", "num"))
        fault((2,), NoName, [1, k], ("zy", "hc", "no", "num"))
        fault((2,), NoName, [1, k], ("zx", "hc", "ha", "no"))
    for h in range(3):
        rows = len(BASE[2][h][2])
        fault((3, h, 0), Twice, [2, h, 1, 0], ("n", "num"))
        fault((3, h, 0), Twice, [2, h, 2, rows - 1], ("take", "m", TO[h], TO_BOX[h]))
        fault((3, h, 1), NoName, [2, h, 1, 1], ("zz", "no"))
        for k in [0, 1, rows - 1, rows]:
            fault((3, h, 2, k), WrongKind, [2, h, 2, k], row_of("tell p"))
            fault((3, h, 2, k), NoName, [2, h, 2, k], row_of("set z 1"))
            fault((3, h, 2, k), NotOwn, [2, h, 2, k], row_of(["send d 1", "send c p", "send d 1"][h]))
            fault((3, h, 2, k), NoCount, [2, h, 2, k], row_of("set p (rec pt)"))
            fault((3, h, 2, k), Lacks, [2, h, 2, k], row_of("tell (case (tag way by 1) (by x x))"))
            fault((3, h, 2, k), Twice, [2, h, 2, k], row_of("tell (case (tag way by 1) (by n 1) (on x 1) (off x 1))"))
        fault((3, h, 3), Falls, [2, h, 2, 0], ("go", 99))
        fault((3, h, 3), Falls, [2, h, 2, rows], row_of("tell 1"))
    return found


class Order(Looking):
    def test_each_fault_by_itself(self):
        for _, refusal, spoil in faults():
            self.refused(refusal, spoil(BASE))

    def test_the_first_of_two_faults_decides(self):
        found = faults()
        pairs = [(one, two) for one in found for two in found if one[0] < two[0] and one[1] != two[1]]
        self.assertGreater(len(pairs), 2000)
        for one, two in pairs:
            # The later one is put in first: so what it stands behind isn't moved by the other.
            make = one[2](two[2](BASE))
            with self.assertRaises(SwapError) as seen:
                look(make)
            self.assertIs(type(seen.exception), one[1], (one[:2], two[:2]))

    def test_a_great_kind_ahead_of_all_else(self):
        great = STEPS + (("zz", "rec", (("a", "twelve"), ("b", "twelve"), ("c", "six"))),)
        for hands in [read("hand a\nend\nhand a\nend")[2], read("hand a\ntell z\nend")[2], read("hand a")[2]]:
            self.refused(TooBig, (great, (), hands))
            self.refused(TooBig, (great + (("yy", "rec", (("a", "no"),)),), (("c", "no", "no", "no"),), hands))
        self.refused(NoName, ((("yy", "rec", (("a", "no"),)),) + great, (), ()))

    def test_falls_ahead_of_the_next_hands_faults(self):
        for text in ["hand b\nbox x num\nbox x num\nend", "hand b\nbox x no\nend", "hand b\ntell z\nend",
                     "hand b\nsend c 1\nend"]:
            self.refused(Falls, read(f"hand a\n{text}"))
            self.refused(Falls, read(f"hand a\ntell 1\n{text}"))
            self.refused(Falls, read(f"hand a\ngo 1\n{text}"))

    def test_a_hands_rows_ahead_of_its_falls(self):
        self.refused(NoName, read("hand a\ngo 7\ntell z"))
        self.refused(WrongKind, read("hand a\ntell 4294967296"))
        self.refused(Twice, read("hand a\nbox x num\nbox x num"))
        self.refused(NoName, read("hand a\nbox x no"))


class Terms(Looking):
    def test_a_row_by_its_term_and_box(self):
        self.refused(WrongKind, ((), (), (("h", (("x", "num"),), (("set", "x", ("num", 4294967296)), ("end",))),)))
        self.lets_by(((), (), (("h", (("x", "num"),), (("set", "x", term_of("(+ x 1)")), ("end",))),)))
