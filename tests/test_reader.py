"""Makes read from their texts [2], [4], [5], [7], [8]."""

import os.path
import unittest

from swapstride.bricks import term_text
from swapstride.errors import BadText
from swapstride.reader import read
from tests.test_bricks import one_sign_off

A = ("box", "a")

WHOLE = "\n".join([
    "rec pt x num y num",
    "rec none",
    "alt way on pt off none",
    "channel ab one two way",
    "channel ba two one num",
    "channel own two two pt",
    "hand one",
    "box a num",
    "box w way",
    "set a (+ a 1)",
    "send ab (tag way on (rec pt a 3))",
    "take m ba a",
    "tell (case w (on p (get p x)) (off q 0))",
    "if (< a 10) 0",
    "go 5",
    "end",
    "hand two",
    "hand six",
    "box a num",
    "hand ten",
    "end",
    "end",
])

WHOLE_MAKE = (
    (
        ("pt", "rec", (("x", "num"), ("y", "num"))),
        ("none", "rec", ()),
        ("way", "alt", (("on", "pt"), ("off", "none"))),
    ),
    (
        ("ab", "one", "two", "way"),
        ("ba", "two", "one", "num"),
        ("own", "two", "two", "pt"),
    ),
    (
        ("one", (("a", "num"), ("w", "way")), (
            ("set", "a", ("op", "+", A, ("num", 1))),
            ("send", "ab", ("tag", "way", "on", ("rec", "pt", (A, ("num", 3))))),
            ("take", "m", "ba", "a"),
            ("tell", ("case", ("box", "w"), (("on", "p", ("get", ("box", "p"), "x")), ("off", "q", ("num", 0))))),
            ("if", ("op", "<", A, ("num", 10)), 0),
            ("go", 5),
            ("end",),
        )),
        ("two", (), ()),
        ("six", (("a", "num"),), ()),
        ("ten", (), (("end",), ("end",))),
    ),
)

# One row of a hand each, with what it is read to.
HAND_ROWS = [
    ("set a a", ("set", "a", A)),
    ("set set 0", ("set", "set", ("num", 0))),
    ("set abcdef (if a a a)", ("set", "abcdef", ("if", A, A, A))),
    ("send c a", ("send", "c", A)),
    ("send send send", ("send", "send", ("box", "send"))),
    ("send c (rec k)", ("send", "c", ("rec", "k", ()))),
    ("take l c a", ("take", "l", "c", "a")),
    ("take take take take", ("take", "take", "take", "take")),
    ("tell a", ("tell", A)),
    ("tell tell", ("tell", ("box", "tell"))),
    ("tell 9999999999", ("tell", ("num", 9999999999))),
    ("tell (get a f)", ("tell", ("get", A, "f"))),
    ("go 0", ("go", 0)),
    ("go 7", ("go", 7)),
    ("go 4294967296", ("go", 4294967296)),
    ("go 9999999999", ("go", 9999999999)),
    ("if a 0", ("if", A, 0)),
    ("if if 12", ("if", ("box", "if"), 12)),
    ("if 1 1", ("if", ("num", 1), 1)),
    ("if (if a a a) 9999999999", ("if", ("if", A, A, A), 9999999999)),
    ("end", ("end",)),
]

KIND_ROWS = [
    ("rec k", ("k", "rec", ())),
    ("rec k a num", ("k", "rec", (("a", "num"),))),
    ("rec k a num b k", ("k", "rec", (("a", "num"), ("b", "k")))),
    ("rec k a num b j c num", ("k", "rec", (("a", "num"), ("b", "j"), ("c", "num")))),
    ("rec k a num b num c num d k", ("k", "rec", (("a", "num"), ("b", "num"), ("c", "num"), ("d", "k")))),
    ("rec rec rec rec", ("rec", "rec", (("rec", "rec"),))),
    ("rec k a num a num", ("k", "rec", (("a", "num"), ("a", "num")))),
    ("alt k a num", ("k", "alt", (("a", "num"),))),
    ("alt alt alt alt", ("alt", "alt", (("alt", "alt"),))),
    ("alt k a num b j", ("k", "alt", (("a", "num"), ("b", "j")))),
    ("alt k a num b num c num d num", ("k", "alt", (("a", "num"), ("b", "num"), ("c", "num"), ("d", "num")))),
]

CHANNEL_ROWS = [
    ("channel c h g num", ("c", "h", "g", "num")),
    ("channel c h h k", ("c", "h", "h", "k")),
    ("channel hand hand hand hand", ("hand", "hand", "hand", "hand")),
    ("channel abcdef ghijkl mnopqr stuvwx", ("abcdef", "ghijkl", "mnopqr", "stuvwx")),
]

BOX_ROWS = [
    ("box a num", ("a", "num")),
    ("box a k", ("a", "k")),
    ("box box box", ("box", "box")),
]

# Rows that are none, wherever they stand.
NO_ROWS = [
    "", " ", "x", "0", "(", ")", "()", "(end)", "num", "it", "a b", "(set a b)", "kind k", "op", "case", "get",
    "tag", "~",
    # Kinds.
    "rec", "alt", "rec ", "alt ", "rec num", "rec it", "alt num a num", "alt it a num", "rec K", "rec 1", "rec abcdefg",
    "alt k", "alt k ", "rec k a", "rec k a num b", "alt k a", "alt k a num b", "rec k num num", "rec k it num",
    "rec k a it", "rec k a 1", "rec k a Num", "rec k 1 num", "alt k num num", "alt k it num", "alt k a it",
    "rec k a num b num c num d num e num", "alt k a num b num c num d num e num", "rec k a num b num c num d num e",
    "rec k a num b num c num d num e num f num", "rec k a (num)", "rec (k)", "rec (k a num)", "Rec k", "REC k",
    "recs k",
    "reck", "rec  k", " rec k", "rec k ", "rec k  a num", "rec k a  num", "rec k a num ", "alt k a num ", "rec\tk",
    "rec k, a num", "rec k a:num", "rec abcdefg a num", "rec k abcdefg num", "rec k a abcdefg",
    # Channels.
    "channel", "channel c", "channel c h", "channel c h g", "channel c h g num num", "channel num h g num",
    "channel it h g num", "channel c num g num", "channel c it g num", "channel c h num num", "channel c h it num",
    "channel c h g it", "channel c h g 1", "channel c h g K", "channel C h g num", "channel c h g (num)",
    " channel c h g num", "channel  c h g num", "channel c  h g num", "channel c h  g num", "channel c h g  num",
    "channel c h g num ", "channels c h g num", "channel 1 h g num", "channel c h g abcdefg",
    # Hands and boxes.
    "hand", "hand ", "hand num", "hand it", "hand H", "hand 1", "hand a b", "hand (a)", "hand abcdefg", " hand a",
    "hand  a",
    "hand a ", "hands a", "box", "box a", "box a num b", "box num num", "box it num", "box a it", "box a 1",
    "box 1 num",
    "box A num", "box a (num)", " box a num", "box  a num", "box a  num", "box a num ", "box abcdefg num",
    "boxes a num",
    # Rows of a hand.
    "set", "set a", "set a ", "set a b c", "set num a", "set it a", "set 1 a", "set A a", "set a num", "set a it",
    "set a 01",
    "set (a) a", "set a (a)", "set (get a f) a", " set a a", "set  a a", "set a  a", "set a a ", "set a (+ a b",
    "set abcdefg a",
    "set a +", "set a (+ a )", "set a (+ a b) c", "set a ( + a b)", "sets a a",
    "send", "send c", "send c ", "send num a", "send it a", "send c it", "send c a b", " send c a", "send  c a",
    "send c  a",
    "send c a ", "send 1 a", "send C a", "send c (rec it)", "send (c) a",
    "take", "take l", "take l c", "take l c a b", "take num c a", "take it c a", "take l num a", "take l it a",
    "take l c num",
    "take l c it", "take l c 1", "take 1 c a", "take l c (get a f)", " take l c a", "take  l c a", "take l  c a",
    "take l c  a", "take l c a ", "take L c a", "take abcdefg c a",
    "tell", "tell ", "tell num", "tell it", "tell a b", "tell (a)", " tell a", "tell  a", "tell a ", "tell +",
    "tell 00",
    "tell 10000000000", "tell (+ a b", "tell + a b)", "tell (+ a b))", "telling a",
    "go", "go ", "go a", "go 00", "go 01", "go -1", "go +1", "go 10000000000", "go 1 2", "go (1)", " go 1", "go  1",
    "go 1 ",
    "goto 1", "go 1.0", "go num",
    "if", "if a", "if 1", "if ", "if a b", "if a b 1", "if a 01", "if a -1", "if a 10000000000", "if num 1",
    "if it 1", "if (a) 1",
    "if a (1)", " if a 1", "if  a 1", "if a  1", "if a 1 ", "if (+ a b 1", "if + a b) 1", "if (+ a b)1", "if 1 a",
    "if (if a b c)", "if (if a b 1)", "if (+ a b) 1 1", "ifs a 1",
    "end ", " end", "end 1", "end end", "end a", "End", "ends", "(end", "end)",
]


def shown(make):
    """The text of a make, told here once more by itself, for the reader to be held against."""
    rows = []
    for name, sort, parts in make[0]:
        rows.append(" ".join([sort, name] + [word for part in parts for word in part]))
    for channel in make[1]:
        rows.append(" ".join(("channel",) + channel))
    for name, boxes, hand_rows in make[2]:
        rows.append(f"hand {name}")
        rows.extend(f"box {box} {kind}" for box, kind in boxes)
        rows.extend(" ".join(row_word(part) for part in row) for row in hand_rows)
    return "\n".join(rows)


def row_word(part):
    return term_text(part) if isinstance(part, tuple) else str(part)


class Reading(unittest.TestCase):
    def reads(self, text, make):
        with self.subTest(text=text):
            self.assertEqual(read(text), make)
            # Asked again with the same, the same is told.
            self.assertEqual(read(text), make)

    def refused(self, text, at):
        with self.subTest(text=text[:200], at=at):
            with self.assertRaises(BadText) as seen:
                read(text)
            self.assertEqual(seen.exception.at, at)


class Right(Reading):
    def test_the_text_without_signs(self):
        self.reads("", ((), (), ()))

    def test_a_whole_make(self):
        self.reads(WHOLE, WHOLE_MAKE)
        self.assertEqual(shown(read(WHOLE)), WHOLE)

    def test_each_beginning_of_a_whole_make(self):
        rows = WHOLE.split("\n")
        for many in range(1, len(rows) + 1):
            text = "\n".join(rows[:many])
            with self.subTest(many=many):
                self.assertEqual(shown(read(text)), text)

    def test_each_row_of_a_kind(self):
        for text, kind in KIND_ROWS:
            self.reads(text, ((kind,), (), ()))
            self.reads(f"{text}\n{text}", ((kind, kind), (), ()))

    def test_each_row_of_a_channel(self):
        for text, channel in CHANNEL_ROWS:
            self.reads(text, ((), (channel,), ()))
            self.reads(f"{text}\n{text}", ((), (channel, channel), ()))

    def test_each_row_of_a_box(self):
        for text, box in BOX_ROWS:
            self.reads(f"hand h\n{text}", ((), (), (("h", (box,), ()),)))
            self.reads(f"hand h\n{text}\n{text}\nend", ((), (), (("h", (box, box), (("end",),)),)))

    def test_each_row_of_a_hand(self):
        for text, row in HAND_ROWS:
            self.reads(f"hand h\n{text}", ((), (), (("h", (), (row,)),)))
            self.reads(f"hand h\nbox a num\n{text}\n{text}", ((), (), (("h", (("a", "num"),), (row, row)),)))
            self.reads(f"hand h\n{text}\nhand g\n{text}", ((), (), (("h", (), (row,)), ("g", (), (row,)))))

    def test_kinds_alone_channels_alone_hands_alone(self):
        self.reads("rec k\nchannel c h g num", ((("k", "rec", ()),), (("c", "h", "g", "num"),), ()))
        self.reads("rec k\nhand h", ((("k", "rec", ()),), (), (("h", (), ()),)))
        self.reads("channel c h g num\nhand h", ((), (("c", "h", "g", "num"),), (("h", (), ()),)))

    def test_kinds_of_both_sorts_in_any_order(self):
        kinds = (("k", "alt", (("a", "num"),)), ("j", "rec", ()), ("k", "alt", (("a", "num"),)))
        self.reads("alt k a num\nrec j\nalt k a num", (kinds, (), ()))

    def test_hands_without_boxes_and_without_rows(self):
        self.reads("hand h\nhand g\nhand h", ((), (), (("h", (), ()), ("g", (), ()), ("h", (), ()))))
        self.reads("hand hand\nbox hand hand", ((), (), (("hand", (("hand", "hand"),), ()),)))

    def test_makes_that_the_looker_will_refuse_are_read(self):
        text = "rec k a no\nrec k\nchannel c no no no\nhand h\nbox a no\nbox a num"
        text += "\nset b 9999999999\ngo 77\ntake l d e\ntake l d e"
        self.assertEqual(shown(read(text)), text)

    def test_more_than_others_are_handed(self):
        rows = [f"rec k{'' if k % 2 else ' a num'}" for k in range(20)]
        rows += ["channel c h g num"] * 20
        for hand in "abcdefghij":
            rows += [f"hand {hand}"] + ["box a num"] * 12 + ["set a (+ a 1)"] * 60
        text = "\n".join(rows)
        self.assertEqual(shown(read(text)), text)

    def test_brackets_twenty_deep(self):
        term = "(+ 1 " * 20 + "a" + ")" * 20
        for row in [f"set a {term}", f"send c {term}", f"tell {term}", f"if {term} 3"]:
            text = f"hand h\n{row}"
            self.assertEqual(shown(read(text)), text)

    def test_two_hundred_terms_in_one(self):
        text = "hand h\ntell (rec k" + " a" * 199 + ")"
        self.assertEqual(shown(read(text)), text)


class Wrong(Reading):
    def test_rows_that_are_none(self):
        for row in NO_ROWS:
            if row != "":
                self.refused(row, 0)
                self.refused(f"hand h\n{row}", 1)
                self.refused(f"{row}\nhand h", 0)
            self.refused(f"rec k\n{row}", 1)
            self.refused(f"rec k\nchannel c h g num\n{row}", 2)
            self.refused(f"hand h\nbox a num\n{row}", 2)
            self.refused(f"hand h\nbox a num\nend\n{row}", 3)
            self.refused(f"hand h\nbox a num\nend\n{row}\nend", 3)
            self.refused(f"rec k\nhand h\nend\nhand g\n{row}\nend\nend", 4)

    def test_empty_rows(self):
        self.refused("\n", 0)
        self.refused("\n\n", 0)
        self.refused("\nrec k", 0)
        self.refused("\n" + WHOLE, 0)
        self.refused("rec k\n", 1)
        self.refused("hand h\nend\n", 2)
        self.refused("rec k\n\nrec k", 1)
        self.refused("hand h\n\nend", 1)
        self.refused("hand h\nend\n\n", 2)
        rows = WHOLE.split("\n")
        for k in range(len(rows) + 1):
            self.refused("\n".join(rows[:k] + [""] + rows[k:]), k)

    def test_a_kind_behind_a_channel(self):
        for kind, told in KIND_ROWS:
            self.refused(f"channel c h g num\n{kind}", 1)
            self.refused(f"rec k\nchannel c h g num\n{kind}\nhand h", 2)

    def test_a_kind_behind_a_hand(self):
        for kind, told in KIND_ROWS:
            self.refused(f"hand h\n{kind}", 1)
            self.refused(f"hand h\nbox a num\n{kind}", 2)
            self.refused(f"hand h\nbox a num\nend\n{kind}", 3)

    def test_a_channel_behind_a_hand(self):
        for channel, told in CHANNEL_ROWS:
            self.refused(f"hand h\n{channel}", 1)
            self.refused(f"channel c h g num\nhand h\nbox a num\n{channel}", 3)
            self.refused(f"rec k\nhand h\nend\n{channel}", 3)

    def test_a_box_behind_a_row(self):
        for row, told in HAND_ROWS:
            self.refused(f"hand h\n{row}\nbox a num", 2)
            self.refused(f"hand h\nbox a num\n{row}\n{row}\nbox b num\nend", 4)
            self.refused(f"hand h\nend\nhand g\n{row}\nbox a num", 4)
        self.reads("hand h\nend\nhand g\nbox a num", ((), (), (("h", (), (("end",),)), ("g", (("a", "num"),), ()))))

    def test_a_row_or_a_box_ahead_of_all_hands(self):
        for row, told in HAND_ROWS + BOX_ROWS:
            self.refused(row, 0)
            self.refused(f"{row}\nhand h", 0)
            self.refused(f"rec k\n{row}", 1)
            self.refused(f"channel c h g num\n{row}\nhand h", 1)
            self.refused(f"rec k\nchannel c h g num\n{row}", 2)

    def test_the_first_of_several_wrong_rows(self):
        self.refused("rec\nhand\nend", 0)
        self.refused("rec k\nhand h\nrec k\nbox\nnone", 2)
        self.refused("hand h\nend\nbox a num\nrec k\nx", 2)
        self.refused("hand h\nset a (+ a b\nset a b)", 1)

    def test_brackets_beyond_twenty(self):
        term = "(+ 1 " * 21 + "a" + ")" * 21
        for row in [f"set a {term}", f"send c {term}", f"tell {term}", f"if {term} 3"]:
            self.refused(f"hand h\n{row}", 1)
            self.refused(f"hand h\nbox a num\nend\n{row}\nnone", 3)
        self.refused("hand h\ntell " + "(+ 1 " * 19000, 1)

    def test_other_ends_of_rows(self):
        for feed in ["\r\n", "\r", "\x0b", "\x0c", "\x85", "\u2028"]:
            self.refused(f"rec k{feed}rec k", 0)
            self.refused(f"rec k\nrec k{feed}", 1)

    def test_one_sign_off(self):
        for other in one_sign_off(WHOLE, " ()a0\n"):
            try:
                found = read(other)
            except BadText as seen:
                self.check_first(other, seen.at)
            else:
                self.assertEqual(shown(found), other)

    def check_first(self, text, at):
        """The rows ahead of the one told can be read, with it they can't; it isn't ahead of what is off."""
        rows = text.split("\n")
        self.assertLessEqual(os.path.commonprefix([text, WHOLE]).count("\n"), at)
        self.assertEqual(shown(read("\n".join(rows[:at]))), "\n".join(rows[:at]))
        # The row without signs by itself is a text, though it is no row among others.
        if rows[:at + 1] != [""]:
            with self.assertRaises(BadText) as seen:
                read("\n".join(rows[:at + 1]))
            self.assertEqual(seen.exception.at, at)
