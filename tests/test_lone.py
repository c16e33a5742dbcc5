"""Lone hands [2], [3], [12], [13], [15]."""

import copy
import random
import unittest

from swapstride.lone import Lone
from swapstride.makes import hand_of
from swapstride.reader import read
from swapstride.values import is_of, nought
from tests.chance import right_make
from tests.test_kinds import KINDS
from tests.test_terms import random_made

WIDE = 4294967296

# A hand with each kind of row; c and s come to it, d and s go from it, and e is none of its own.
EACH = read("""rec pt x num y num
alt way on pt by num
channel c other h num
channel d h other pt
channel s h h way
channel e other other num
hand other
box n num
send c n
go 0
hand h
box n num
box p pt
box w way
set n (+ n 5)
send d (rec pt n 1)
take m c n
tell n
if (< n 10) 6
go 8
send s (tag way by n)
take k s w
tell (case w (on q (get q x)) (by q (+ q 1)))
end""")
LETTERS = {"c": [7, 8], "s": [("way", "on", ("pt", (3, 4))), ("way", "by", 1)], "e": [1, 2, 3], "d": [("pt", (1, 1))]}
NOUGHTS = {"n": 0, "p": ("pt", (0, 0)), "w": ("way", "on", ("pt", (0, 0)))}


def all_of(lone):
    """All that a lone hand tells."""
    return (lone.stand(), lone.told(), lone.sent(), lone.left(), lone.count())


def make_of(rows, boxes="box n num\nbox m num", channels=""):
    """A make of one hand h, and one that never does a thing."""
    return read(f"{channels}hand o\nend\nhand h\n{boxes}\n{rows}")


class Checks(unittest.TestCase):
    def at(self, lone, row, told, sent, left, count, **boxes):
        """Check all that a hand tells; of its boxes, those told here."""
        stand = lone.stand()
        self.assertIs(type(stand), tuple)
        self.assertEqual(len(stand), 2)
        self.assertEqual(stand[0], row)
        self.assertEqual({x: stand[1][x] for x in boxes}, boxes)
        self.assertEqual((lone.told(), lone.sent(), lone.left(), lone.count()), (told, sent, left, count))


class Begin(Checks):
    def test_row_nought_and_noughts(self):
        lone = Lone(EACH, "h", LETTERS)
        self.assertEqual(lone.stand(), (0, NOUGHTS))
        self.at(lone, 0, [], {"d": [], "s": []}, {"c": LETTERS["c"], "s": LETTERS["s"]}, 0)

    def test_noughts_of_each_kind(self):
        boxes = tuple((name, name) for name, _, _ in KINDS) + (("n", "num"),)
        make = (KINDS, (), (("h", boxes, (("end",),)),))
        told = {name: nought(KINDS, name) for name, _, _ in KINDS}
        self.assertEqual(Lone(make, "h", {}).stand(), (0, {**told, "n": 0}))

    def test_a_hand_without_boxes_and_channels(self):
        lone = Lone(read("hand h\ntell 3\ngo 0"), "h", {})
        self.assertEqual(all_of(lone), ((0, {}), [], {}, {}, 0))
        self.assertIs(lone.step(), True)
        self.assertIs(lone.step(), True)
        self.assertIs(lone.step(), True)
        self.assertEqual(all_of(lone), ((1, {}), [3, 3], {}, {}, 3))

    def test_by_the_names_of_its_arguments(self):
        lone = Lone(make=EACH, h="h", letters={"c": [1]}, stand=(2, NOUGHTS))
        self.assertIs(lone.step(), True)
        self.assertEqual(lone.stand()[0], 3)
        self.assertEqual(Lone(make=EACH, h="h", letters={}, stand=None).stand(), (0, NOUGHTS))

    def test_in_the_stand_handed_in(self):
        boxes = {"n": 9, "p": ("pt", (5, 6)), "w": ("way", "by", 2)}
        for row in range(10):
            lone = Lone(EACH, "h", LETTERS, (row, boxes))
            self.assertEqual(lone.stand(), (row, boxes))
            self.at(lone, row, [], {"d": [], "s": []}, {"c": [7, 8], "s": LETTERS["s"]}, 0)

    def test_in_the_stand_of_another(self):
        one = Lone(EACH, "h", LETTERS)
        for _ in range(4):
            one.step()
        other = Lone(EACH, "h", one.left(), one.stand())
        while one.step():
            self.assertIs(other.step(), True)
            self.assertEqual(other.stand(), one.stand())
        self.assertIs(other.step(), False)
        self.assertEqual(one.told(), [7] + other.told())
        self.assertEqual(other.count(), one.count() - 4)


class Rows(Checks):
    def test_each_kind_of_row_in_one_run(self):
        c = LETTERS["c"]
        s = LETTERS["s"]
        lone = Lone(EACH, "h", LETTERS)
        point = ("pt", (5, 1))
        by = ("way", "by", 7)
        for done, (row, told, sent, left, boxes) in enumerate([
                (1, [], {"d": [], "s": []}, {"c": c, "s": s}, {"n": 5}),
                (2, [], {"d": [point], "s": []}, {"c": c, "s": s}, {"n": 5}),
                (3, [], {"d": [point], "s": []}, {"c": [8], "s": s}, {"n": 7}),
                (4, [7], {"d": [point], "s": []}, {"c": [8], "s": s}, {"n": 7}),
                (6, [7], {"d": [point], "s": []}, {"c": [8], "s": s}, {"n": 7}),
                (7, [7], {"d": [point], "s": [by]}, {"c": [8], "s": s}, {"n": 7}),
                (8, [7], {"d": [point], "s": [by]}, {"c": [8], "s": s[1:]}, {"w": s[0]}),
                (9, [7, 3], {"d": [point], "s": [by]}, {"c": [8], "s": s[1:]}, {"n": 7, "w": s[0]})], start=1):
            self.assertIs(lone.step(), True)
            self.at(lone, row, told, sent, left, done, **boxes)
        for _ in range(3):
            self.assertIs(lone.step(), False)
            self.at(lone, 9, [7, 3], {"d": [point], "s": [by]}, {"c": [8], "s": s[1:]}, 8, n=7)

    def test_the_other_way_of_an_if_and_a_go(self):
        lone = Lone(EACH, "h", {"c": [10]})
        for row in [1, 2, 3, 4, 5, 8, 9]:
            self.assertIs(lone.step(), True)
            self.assertEqual(lone.stand()[0], row)
        self.assertEqual(lone.told(), [10, 0])

    def test_a_set_uses_the_boxes_as_they_were(self):
        lone = Lone(make_of("set n (+ n 3)\nset m (* n n)\nset n (- m n)\nset n n\nend"), "h", {})
        for n, m in [(3, 0), (3, 9), (6, 9), (6, 9)]:
            self.assertIs(lone.step(), True)
            self.assertEqual(lone.stand()[1], {"n": n, "m": m})
        self.assertEqual(lone.count(), 4)

    def test_an_if_at_nought_and_at_other_numbers(self):
        for n, row in [(0, 1), (1, 2), (2, 2), (WIDE - 1, 2)]:
            lone = Lone(make_of("if n 2\nend\nend"), "h", {}, (0, {"n": n, "m": 0}))
            self.assertIs(lone.step(), True)
            self.assertEqual(lone.stand(), (row, {"n": n, "m": 0}))
            self.assertEqual((lone.count(), lone.told()), (1, []))

    def test_ifs_back_to_themselves_and_ahead(self):
        lone = Lone(make_of("set n (+ n 1)\nif (< n 4) 0\ntell n\nend"), "h", {})
        many = 0
        while lone.step():
            many += 1
        self.assertEqual((many, lone.count(), lone.told(), lone.stand()[0]), (9, 9, [4], 3))

    def test_a_go_to_itself_is_done_for_ever(self):
        lone = Lone(make_of("go 0"), "h", {})
        for count in range(1, 30):
            self.assertIs(lone.step(), True)
            self.assertEqual((lone.stand()[0], lone.count()), (0, count))

    def test_an_if_to_itself_and_to_the_next_row(self):
        lone = Lone(make_of("if 1 0\nend"), "h", {})
        for count in range(1, 5):
            self.assertIs(lone.step(), True)
            self.assertEqual((lone.stand()[0], lone.count()), (0, count))
        lone = Lone(make_of("if 1 1\nend"), "h", {})
        self.assertIs(lone.step(), True)
        self.assertEqual(lone.stand()[0], 1)

    def test_numbers_beyond_the_bound_begin_again(self):
        rows = "set n (- n 1)\ntell n\nset n (+ n 2)\ntell n\nset n (* (- n 2) (- n 2))\ntell n\nend"
        lone = Lone(make_of(rows), "h", {})
        while lone.step():
            pass
        self.assertEqual(lone.told(), [WIDE - 1, 1, 1])

    def test_an_end_at_the_begin(self):
        lone = Lone(make_of("end\ntell 1\nend"), "h", {})
        for _ in range(5):
            self.assertIs(lone.step(), False)
            self.assertEqual(all_of(lone), ((0, {"n": 0, "m": 0}), [], {}, {}, 0))

    def test_words_of_rows_as_names(self):
        make = read("channel if o h num\nchannel end h h num\nhand o\nend\nhand h"
                    "\nbox end num\nbox take num\nbox go num"
                    "\ntake go if end\ntake set if take\nsend end take\nset go (- end take)\nset end (+ go end)"
                    "\ntell go\ntake end end end\nend")
        lone = Lone(make, "h", {"if": [9, 4], "end": [3]})
        while lone.step():
            pass
        self.at(lone, 7, [5], {"end": [4]}, {"if": [], "end": []}, 7, end=3, take=4, go=5)

    def test_ends_amid(self):
        make = make_of("if n 2\nend\ntell 1\nend\ntell 2\nend")
        for row, n, told in [(0, 0, []), (0, 1, [1]), (4, 0, [2]), (3, 0, []), (5, 0, [])]:
            lone = Lone(make, "h", {}, (row, {"n": n, "m": 0}))
            while lone.step():
                pass
            self.assertEqual(lone.told(), told)


class Letters(Checks):
    def test_waiting_without_a_letter(self):
        lone = Lone(EACH, "h", {})
        self.assertEqual([lone.step() for _ in range(6)], [True, True, False, False, False, False])
        self.at(lone, 2, [], {"d": [("pt", (5, 1))], "s": []}, {"c": [], "s": []}, 2, n=5)

    def test_no_list_and_a_list_of_none_are_alike(self):
        one = Lone(EACH, "h", {})
        other = Lone(EACH, "h", {"c": [], "s": []})
        for _ in range(4):
            self.assertEqual(one.step(), other.step())
            self.assertEqual(all_of(one), all_of(other))

    def test_lists_of_other_channels_are_left_out(self):
        for letters in [{"e": [1]}, {"d": [("pt", (1, 1))]}, {"zz": [5]}, {"e": [1], "d": [], "zz": [1, 2]}]:
            lone = Lone(EACH, "h", letters)
            self.assertEqual([lone.step() for _ in range(4)], [True, True, False, False])
            self.at(lone, 2, [], {"d": [("pt", (5, 1))], "s": []}, {"c": [], "s": []}, 2)

    def test_letters_in_their_order(self):
        make = make_of("take m c n\ntell n\ngo 0", channels="channel c o h num\nchannel b o h num\n")
        lone = Lone(make, "h", {"c": [5, 3, 9, 3], "b": [1]})
        while lone.step():
            pass
        self.at(lone, 0, [5, 3, 9, 3], {}, {"c": [], "b": [1]}, 12, n=3)

    def test_two_channels_taken_from_in_turn(self):
        make = make_of("take m c n\ntake k b m\ntell (- n m)\ngo 0", channels="channel c o h num\nchannel b o h num\n")
        lone = Lone(make, "h", {"c": [9, 8, 7], "b": [1, 2]})
        while lone.step():
            pass
        self.at(lone, 1, [8, 6], {}, {"c": [], "b": []}, 9, n=7, m=2)

    def test_a_letter_of_nought_is_a_letter(self):
        make = make_of("take m c n\ntell n\ngo 0", channels="channel c o h num\n")
        lone = Lone(make, "h", {"c": [0, 0]})
        self.assertEqual([lone.step() for _ in range(7)], [True] * 6 + [False])
        self.assertEqual(lone.told(), [0, 0])

    def test_what_it_sends_to_itself_does_not_come_to_it(self):
        make = make_of("send c 4\ntake m c n\ntell n\ngo 0", channels="channel c h h num\n")
        lone = Lone(make, "h", {})
        self.assertEqual([lone.step() for _ in range(3)], [True, False, False])
        self.at(lone, 1, [], {"c": [4]}, {"c": []}, 1)
        lone = Lone(make, "h", {"c": [1, 2]})
        while lone.step():
            pass
        self.at(lone, 1, [1, 2], {"c": [4, 4, 4]}, {"c": []}, 9)

    def test_the_same_channel_by_two_takes(self):
        make = make_of("take m c n\ntake k c m\ntell (- n m)\nend", channels="channel c o h num\n")
        lone = Lone(make, "h", {"c": [9, 4, 1]})
        while lone.step():
            pass
        self.at(lone, 3, [5], {}, {"c": [1]}, 3, n=9, m=4)

    def test_sent_in_order_by_channels(self):
        channels = "channel c h o num\nchannel b h o num\nchannel a o h num\n"
        make = make_of("send b 1\nsend c 2\nsend b 3\nend", channels=channels)
        lone = Lone(make, "h", {"b": [7], "c": [7]})
        while lone.step():
            pass
        self.at(lone, 3, [], {"c": [2], "b": [1, 3]}, {"a": []}, 3)


class Own(Checks):
    def test_what_was_handed_in_is_not_changed(self):
        letters = copy.deepcopy(LETTERS)
        boxes = dict(NOUGHTS)
        stand = (0, boxes)
        lone = Lone(EACH, "h", letters, stand)
        while lone.step():
            pass
        self.assertEqual(letters, LETTERS)
        self.assertEqual(list(letters), list(LETTERS))
        self.assertEqual(boxes, NOUGHTS)

    def test_what_was_handed_in_changed_behind_the_call(self):
        letters = copy.deepcopy(LETTERS)
        boxes = dict(NOUGHTS)
        lone = Lone(EACH, "h", letters, (0, boxes))
        letters["c"].insert(0, 99)
        letters["s"].clear()
        letters.clear()
        boxes["n"] = 77
        boxes.clear()
        other = Lone(EACH, "h", LETTERS)
        self.assertEqual(all_of(lone), all_of(other))
        while other.step():
            self.assertIs(lone.step(), True)
            self.assertEqual(all_of(lone), all_of(other))

    def test_what_was_told_changed_by_the_asker(self):
        lone = Lone(EACH, "h", LETTERS)
        other = Lone(EACH, "h", LETTERS)
        going = True
        while going:
            self.spoil(lone)
            going = lone.step()
            self.assertIs(other.step(), going)
            self.assertEqual(all_of(lone), all_of(other))

    def spoil(self, lone):
        told = all_of(lone)
        for _ in range(2):
            lone.stand()[1]["n"] = 55
            lone.stand()[1].clear()
            lone.told().append(4)
            lone.sent()["d"].append(("pt", (9, 9)))
            lone.sent().clear()
            lone.left()["c"].insert(0, 1)
            lone.left()["s"].clear()
            lone.left().clear()
            self.assertEqual(all_of(lone), told)

    def test_what_was_told_stays_when_the_hand_goes_on(self):
        lone = Lone(EACH, "h", LETTERS)
        told = all_of(lone)
        before = copy.deepcopy(told)
        while lone.step():
            self.assertEqual(told, before)
            told = all_of(lone)
            before = copy.deepcopy(told)

    def test_two_hands_of_one_make_hinder_not_one_another(self):
        one = Lone(EACH, "h", LETTERS)
        other = Lone(EACH, "h", LETTERS)
        while one.step():
            pass
        self.assertEqual(all_of(other), all_of(Lone(EACH, "h", LETTERS)))


class Promise(unittest.TestCase):
    def test_each_box_and_letter_keeps_its_kind(self):
        source = random.Random(41)
        for _ in range(150):
            make = right_make(source)
            letters = {c: [random_made(source, kind, {}, 1) for _ in range(source.randint(0, 4))]
                       for c, _, _, kind in make[1]}
            letters = {c: [self.value(term) for term in terms] for c, terms in letters.items()}
            for h in [hand[0] for hand in make[2]]:
                self.check_run(make, h, letters)

    def value(self, term):
        """The value that a term without boxes and ops writes."""
        if term[0] == "num":
            return term[1]
        if term[0] == "rec":
            return (term[1], tuple(self.value(inner) for inner in term[2]))
        return (term[1], term[2], self.value(term[3]))

    def check_run(self, make, h, letters):
        lone = Lone(make, h, letters)
        boxes = hand_of(make, h)[1]
        kinds = {channel[0]: channel[3] for channel in make[1]}
        for count in range(40):
            row, values = lone.stand()
            self.assertEqual(list(values), [x for x, _ in boxes])
            self.assertTrue(0 <= row < len(hand_of(make, h)[2]))
            for x, kind in boxes:
                self.assertIs(is_of(KINDS, kind, values[x]), True)
            for c, sent in lone.sent().items():
                self.assertTrue(all(is_of(KINDS, kinds[c], letter) for letter in sent))
            self.assertTrue(all(is_of(KINDS, "num", told) for told in lone.told()))
            self.assertEqual(lone.count(), count)
            if not lone.step():
                self.assertIn(hand_of(make, h)[2][row][0], ["take", "end"])
                break
