"""What is in makes [2], [5], [12]."""

import random
import unittest

from swapstride.bricks import term_of
from swapstride.makes import channel_of, hand_of, mark_row, ways_of
from swapstride.reader import read
from tests.test_reader import HAND_ROWS, WHOLE_MAKE
from tests.test_writer import random_make

A = ("box", "a")


class Ways(unittest.TestCase):
    def tells(self, rows, ways):
        with self.subTest(rows=rows):
            self.assertEqual(ways_of(tuple(rows)), ways)
            self.assertIs(type(ways_of(tuple(rows))), list)
            self.assertEqual([type(way) for way in ways_of(tuple(rows))], [tuple] * len(rows))
            self.assertEqual(ways_of(rows=tuple(rows)), ways)

    def test_no_rows(self):
        self.tells([], [])

    def test_each_kind_of_row_at_each_place(self):
        fill = ("tell", A)
        for k in range(5):
            ahead = [(j + 1,) for j in range(k)]
            for row, ways in [(("set", "a", A), (k + 1,)), (("send", "c", A), (k + 1,)), (("tell", A), (k + 1,)),
                              (("take", "l", "c", "a"), (k + 1,)), (("end",), ()), (("go", 7), (7,)),
                              (("if", A, 7), (7, k + 1))]:
                self.tells([fill] * k + [row], ahead + [ways])
                self.tells([fill] * k + [row, fill], ahead + [ways, (k + 2,)])

    def test_rows_that_are_there_and_not_and_of_ten_figures(self):
        for k in [0, 1, 2, 3, 4, 10, 24, 4294967295, 4294967296, 9999999999]:
            self.tells([("go", k), ("if", A, k), ("go", k)], [(k,), (k, 2), (k,)])

    def test_to_itself_and_to_the_next(self):
        self.tells([("go", 0), ("go", 2), ("if", A, 2), ("if", A, 4)], [(0,), (2,), (2, 3), (4, 4)])

    def test_a_term_that_is_written_out_changes_no_way(self):
        self.tells([("if", ("num", 0), 5), ("if", ("num", 1), 5)], [(5, 1), (5, 2)])

    def test_words_of_rows_as_names(self):
        rows = [("set", "go", ("box", "end")), ("send", "if", ("box", "go")), ("take", "go", "end", "if"),
                ("tell", ("if", A, A, A)), ("take", "if", "go", "end"), ("take", "end", "if", "go")]
        self.tells(rows, [(1,), (2,), (3,), (4,), (5,), (6,)])

    def test_each_row_that_is_read(self):
        for text, row in HAND_ROWS:
            ways = ways_of((row,))
            with self.subTest(text=text):
                self.assertEqual(len(ways), 1)
                self.assertEqual(len(ways[0]), {"if": 2, "end": 0}.get(row[0], 1))

    def test_the_list_told_is_the_askers_own(self):
        rows = (("go", 3), ("end",), ("if", A, 1), ("tell", A))
        told = ways_of(rows)
        del told[:]
        self.assertEqual(ways_of(rows), [(3,), (), (1, 3), (4,)])
        told = ways_of(())
        told.append((1,))
        self.assertEqual(ways_of(()), [])


ALIKE = read("""rec a a num b num
rec b a a b num
alt c a a b b c num
channel a a b a
channel b b a num
channel c c c c
hand a
box a a
box b num
take b b b
send a a
take a b b
go 0
hand b
box c num
box a a
set c 3
take c a a
end
hand c
box c c
box b num
tell 0
send c c
take a c c
take d c c
go 2""")


class Things(unittest.TestCase):
    def test_each_hand(self):
        for make in [WHOLE_MAKE, ALIKE]:
            for hand in make[2]:
                with self.subTest(hand=hand[0]):
                    self.assertEqual(hand_of(make, hand[0]), hand)
                    self.assertEqual(hand_of(make=make, h=hand[0]), hand)
                    self.assertIs(type(hand_of(make, hand[0])), tuple)

    def test_each_channel(self):
        for make in [WHOLE_MAKE, ALIKE]:
            for channel in make[1]:
                with self.subTest(channel=channel[0]):
                    self.assertEqual(channel_of(make, channel[0]), channel)
                    self.assertEqual(channel_of(make=make, c=channel[0]), channel)
                    self.assertIs(type(channel_of(make, channel[0])), tuple)

    def test_names_that_are_the_same_among_others(self):
        self.assertEqual([hand_of(ALIKE, h)[1][0] for h in "abc"], [("a", "a"), ("c", "num"), ("c", "c")])
        told = [("a", "b", "a"), ("b", "a", "num"), ("c", "c", "c")]
        self.assertEqual([channel_of(ALIKE, c)[1:] for c in "abc"], told)

    def test_each_mark(self):
        told = {("a", "b"): 0, ("a", "a"): 2, ("b", "c"): 1, ("c", "a"): 2, ("c", "d"): 3}
        for (h, l), row in told.items():
            with self.subTest(hand=h, mark=l):
                self.assertEqual(mark_row(ALIKE, h, l), row)
                self.assertEqual(mark_row(make=ALIKE, h=h, l=l), row)
                self.assertIs(type(mark_row(ALIKE, h, l)), int)

    def test_marks_that_a_hand_has_not(self):
        # Each of these is the mark of another hand's take, or a name of another sort.
        for h, l in [("a", "c"), ("a", "d"), ("b", "a"), ("b", "b"), ("b", "d"), ("c", "b"), ("c", "c"), ("a", "num"),
                     ("b", "take"), ("c", "tell")]:
            with self.subTest(hand=h, mark=l):
                self.assertIsNone(mark_row(ALIKE, h, l))

    def test_only_takes_have_marks(self):
        text = "channel m h h num\nhand h\nbox m num\nset m m\nsend m m\ntell m\nif m 0\ntake l m m\ngo 0"
        self.assertIsNone(mark_row(read(text), "h", "m"))
        self.assertEqual(mark_row(read(text), "h", "l"), 4)
        self.assertIsNone(mark_row(read("hand h"), "h", "l"))
        self.assertIsNone(mark_row(read("hand h\nend"), "h", "l"))

    def test_first_inner_and_last_of_many(self):
        rows = tuple(("take", name, "c", "a") for name in ["x", "y", "z", "xx", "xy"])
        make = ((), tuple((c, "h", "h", "num") for c in ["c", "d", "e", "f"]),
                tuple((h, (), rows[k:]) for k, h in enumerate(["h", "i", "j", "k"])))
        self.assertEqual([mark_row(make, "h", row[1]) for row in rows], [0, 1, 2, 3, 4])
        self.assertEqual([mark_row(make, h, "xx") for h in "hijk"], [3, 2, 1, 0])
        self.assertEqual([channel_of(make, c)[0] for c in "cdef"], ["c", "d", "e", "f"])
        self.assertEqual([hand_of(make, h)[0] for h in "hijk"], ["h", "i", "j", "k"])

    def test_makes_of_chance(self):
        source = random.Random(21)
        for _ in range(100):
            make = random_make(source)
            for k, hand in enumerate(make[2]):
                if hand[0] not in [other[0] for other in make[2][:k]]:
                    self.assertEqual(hand_of(make, hand[0]), hand)
                    self.check_marks(make, hand)

    def check_marks(self, make, hand):
        takes = [(k, row[1]) for k, row in enumerate(hand[2]) if row[0] == "take"]
        for k, l in takes:
            if [mark for _, mark in takes].count(l) == 1:
                self.assertEqual(mark_row(make, hand[0], l), k)
        self.assertIsNone(mark_row(make, hand[0], "nomark"))


class Rows(unittest.TestCase):
    def test_ways_of_the_rows_of_a_hand(self):
        self.assertEqual(ways_of(hand_of(ALIKE, "c")[2]), [(1,), (2,), (3,), (4,), (2,)])
        self.assertEqual(ways_of((("tell", term_of("(if a 1 2)")),)), [(1,)])
