"""Houses of one make [2], [3], [13], [14], [15]."""

import copy
import random
import unittest

from swapstride.lone import Lone
from swapstride.makes import hand_of
from swapstride.plain import Plain, plain_at
from swapstride.reader import read
from swapstride.values import is_of
from tests.chance import Model, right_make
from tests.test_kinds import KINDS

# One hand counts and sends recs, one takes them, tells of them and answers.
PAIR = read("""rec pt x num y num
channel c one two pt
channel d two one num
hand one
box n num
box m num
set n (+ n 1)
send c (rec pt n m)
if (< n 3) 0
take k d m
tell (+ m n)
go 0
hand two
box p pt
take l c p
tell (get p x)
send d (* 10 (get p x))
go 0""")

# A hand that hands letters to itself, and one that ends.
SELF = read("""channel s a a num
hand a
box n num
send s 1
send s 2
send s 3
take m s n
tell n
send s (+ n 3)
if (< n 7) 3
end
hand b
tell 5
end""")


def all_of(house):
    """All that a house tells."""
    hands = [hand[0] for hand in house.make[2]]
    return ({h: (house.stand(h), house.told(h), house.count(h)) for h in hands},
            {channel[0]: house.letters(channel[0]) for channel in house.make[1]})


def stirred(source, make, many):
    """A weaving of chance."""
    return [source.choice([hand[0] for hand in make[2]]) for _ in range(many)]


def dicts_of(house):
    """What plain_at is handed for a house."""
    hands = [hand[0] for hand in house.make[2]]
    return ({h: house.stand(h) for h in hands}, {channel[0]: house.letters(channel[0]) for channel in house.make[1]},
            {h: house.told(h) for h in hands}, {h: house.count(h) for h in hands})


class Begin(unittest.TestCase):
    def test_a_house_at_its_begin(self):
        house = Plain(PAIR)
        self.assertEqual(all_of(house), (
            {"one": ((0, {"n": 0, "m": 0}), [], 0), "two": ((0, {"p": ("pt", (0, 0))}), [], 0)}, {"c": [], "d": []}))
        self.assertIs(house.still(), False)

    def test_no_hands(self):
        house = Plain(((), (), ()))
        self.assertIs(house.still(), True)
        self.assertEqual(house.weave([]), 0)

    def test_by_the_names_of_its_arguments(self):
        house = Plain(make=PAIR)
        self.assertIs(house.step(h="one"), True)
        self.assertEqual(house.weave(hands=["one", "two"]), 2)
        self.assertEqual(house.stand(h="one")[0], 2)
        self.assertEqual(house.told(h="one"), [])
        self.assertEqual(house.letters(c="c"), [])
        self.assertEqual(house.count(h="one"), 2)
        other = plain_at(make=PAIR, stands={h: house.stand(h) for h in ["one", "two"]}, letters={"c": [], "d": []},
                         told={"one": [], "two": []}, counts={"one": 2, "two": 1})
        self.assertEqual(all_of(other), all_of(house))


class Running(unittest.TestCase):
    def test_one_hand(self):
        house = Plain(read("hand h\nbox n num\nset n (+ n 1)\ntell n\nif (< n 3) 0\nend"))
        self.assertEqual([house.step("h") for _ in range(11)], [True] * 9 + [False] * 2)
        self.assertEqual(all_of(house), ({"h": ((3, {"n": 3}), [1, 2, 3], 9)}, {}))
        self.assertIs(house.still(), True)

    def test_letters_to_another_hand_in_their_order(self):
        house = Plain(PAIR)
        self.assertEqual(house.weave(["one"] * 20), 9)
        points = [("pt", (n, 0)) for n in [1, 2, 3]]
        self.assertEqual(house.letters("c"), points)
        self.assertEqual(house.letters("d"), [])
        self.assertEqual(house.stand("one"), (3, {"n": 3, "m": 0}))
        for k, (row, told, left, back) in enumerate([
                (1, [], points[1:], []), (2, [1], points[1:], []), (3, [1], points[1:], [10]),
                (0, [1], points[1:], [10]), (1, [1], points[2:], [10])], start=1):
            self.assertIs(house.step("two"), True)
            self.assertEqual((house.stand("two")[0], house.told("two"), house.letters("c"), house.letters("d"),
                              house.count("two")), (row, told, left, back, k))
        self.assertEqual(house.weave(["two"] * 20), 7)
        self.assertEqual((house.told("two"), house.letters("c"), house.letters("d")), ([1, 2, 3], [], [10, 20, 30]))
        self.assertEqual(house.weave(["one"] * 3), 3)
        self.assertEqual((house.told("one"), house.letters("d")), ([13], [20, 30]))

    def test_letters_to_itself_in_their_order(self):
        house = Plain(SELF)
        self.assertEqual(house.weave(["a"] * 3), 3)
        self.assertEqual(house.letters("s"), [1, 2, 3])
        self.assertEqual(house.weave(["a"] * 4), 4)
        self.assertEqual((house.letters("s"), house.told("a"), house.stand("a")), ([2, 3, 4], [1], (3, {"n": 1})))
        self.assertEqual(house.weave(["a"] * 100), 24)
        self.assertEqual((house.letters("s"), house.told("a")), ([8, 9, 10], [1, 2, 3, 4, 5, 6, 7]))
        self.assertEqual(house.count("a"), 31)

    def test_waiting(self):
        house = Plain(PAIR)
        for _ in range(3):
            before = all_of(house)
            self.assertIs(house.step("two"), False)
            self.assertEqual(all_of(house), before)
        self.assertEqual(house.weave(["two", "one", "two", "one", "two", "two"]), 4)
        self.assertEqual((house.count("one"), house.count("two"), house.told("two")), (2, 2, [1]))

    def test_a_letter_of_nought_is_a_letter(self):
        house = Plain(read("channel c a b num\nhand a\nsend c 0\nend\nhand b\nbox n num\ntake m c n\ntell n\nend"))
        self.assertEqual(house.weave(["a", "b", "b", "a", "b"]), 3)
        self.assertEqual(house.told("b"), [0])

    def test_weave_tells_how_many_rows_were_done(self):
        house = Plain(SELF)
        self.assertEqual(house.weave([]), 0)
        self.assertEqual(house.weave(["b", "b", "b"]), 1)
        self.assertEqual(house.weave(["b"]), 0)
        self.assertEqual(house.weave(["a", "b", "a"]), 2)
        self.assertIs(type(house.weave(["a"])), int)
        self.assertEqual(house.weave(["b", "a"]), 1)

    def test_a_weaving_is_its_steps(self):
        source = random.Random(51)
        for make in [PAIR, SELF]:
            hands = stirred(source, make, 60)
            one = Plain(make)
            other = Plain(make)
            self.assertEqual(one.weave(hands), sum(other.step(h) for h in hands))
            self.assertEqual(all_of(one), all_of(other))

    def test_two_hands_that_share_the_names_of_boxes(self):
        house = Plain(read("hand a\nbox n num\nset n 1\nend\nhand b\nbox n num\nset n 2\nend"))
        self.assertEqual(house.weave(["a", "b"]), 2)
        self.assertEqual((house.stand("a"), house.stand("b")), ((1, {"n": 1}), (1, {"n": 2})))

    def test_many_letters_between(self):
        house = Plain(read("channel c a b num\nhand a\nbox n num\nset n (+ n 1)\nsend c n\ngo 0"
                           "\nhand b\nbox n num\nbox s num\ntake m c n\nset s (+ s n)\ngo 0"))
        self.assertEqual(house.weave(["a"] * 3000 + ["b"] * 3000), 6000)
        self.assertEqual(house.stand("b"), (0, {"n": 1000, "s": 500500}))
        self.assertEqual(house.letters("c"), [])


class Still(unittest.TestCase):
    def test_ended_and_waiting_hands(self):
        text = "channel c a b num\nhand a\n{}\nend\nhand b\nbox n num\n{}\nend"
        for one, two, still in [("", "", True), ("tell 1\n", "", False), ("", "tell 1\n", False),
                                ("", "take m c n\n", True), ("send c 1\n", "take m c n\n", False)]:
            rows = read(text.format(one.strip() or "end", two.strip() or "end"))
            self.assertIs(Plain(rows).still(), still)

    def test_a_letter_at_hand(self):
        make = read("channel c a b num\nhand a\nsend c 1\nend\nhand b\nbox n num\ntake m c n\nend")
        house = Plain(make)
        stills = [house.still()]
        for h in ["a", "b"]:
            house.step(h)
            stills.append(house.still())
        self.assertEqual(stills, [False, False, True])

    def test_a_ring_of_waiting(self):
        house = Plain(read("channel c a b num\nchannel d b a num\nhand a\nbox n num\ntake m d n\nsend c n\ngo 0"
                           "\nhand b\nbox n num\ntake m c n\nsend d n\ngo 0"))
        self.assertIs(house.still(), True)
        self.assertEqual(house.weave(["a", "b"] * 5), 0)

    def test_a_go_to_itself_is_never_still(self):
        house = Plain(read("hand a\ngo 0\nhand b\nend"))
        house.weave(["a", "b"] * 5)
        self.assertIs(house.still(), False)

    def test_asked_it_does_nothing(self):
        source = random.Random(52)
        for make in [PAIR, SELF]:
            house = Plain(make)
            other = Plain(make)
            for h in stirred(source, make, 40):
                house.still()
                house.still()
                self.assertEqual(house.step(h), other.step(h))
                self.assertEqual(all_of(house), all_of(other))

    def test_just_where_no_step_does_a_thing(self):
        source = random.Random(53)
        seen = {True: 0, False: 0}
        for _ in range(120):
            make = right_make(source)
            house = Plain(make)
            for h in stirred(source, make, 30):
                can = [plain_at(make, *dicts_of(house)).step(hand[0]) for hand in make[2]]
                self.assertIs(house.still(), not any(can))
                seen[house.still()] += 1
                house.step(h)
        self.assertGreater(min(seen.values()), 300)

    def test_no_weaving_counts_more_than_a_still_house(self):
        source = random.Random(54)
        found = 0
        for _ in range(120):
            make = right_make(source)
            house = Plain(make)
            house.weave(stirred(source, make, 300))
            if house.still():
                found += 1
                for _ in range(3):
                    other = Plain(make)
                    other.weave(stirred(source, make, source.randrange(300)))
                    for hand in make[2]:
                        self.assertLessEqual(other.count(hand[0]), house.count(hand[0]))
        self.assertGreater(found, 30)


class Amid(unittest.TestCase):
    def test_with_what_another_house_tells(self):
        source = random.Random(55)
        for make in [PAIR, SELF] + [right_make(source) for _ in range(60)]:
            one = Plain(make)
            one.weave(stirred(source, make, 20))
            other = plain_at(make, *dicts_of(one))
            self.assertIs(type(other), Plain)
            self.assertEqual(all_of(other), all_of(one))
            hands = stirred(source, make, 20)
            self.assertEqual(other.weave(hands), one.weave(hands))
            self.assertEqual(all_of(other), all_of(one))
            self.assertEqual(other.still(), one.still())

    def test_with_stands_letters_tellings_and_counts_of_ones_own(self):
        stands = {"one": (3, {"n": 7, "m": 8}), "two": (2, {"p": ("pt", (4, 5))})}
        house = plain_at(PAIR, stands, {"c": [("pt", (1, 2))], "d": [6, 5]}, {"one": [9], "two": [3, 3]},
                         {"one": 100, "two": 0})
        self.assertEqual(all_of(house), ({"one": ((3, {"n": 7, "m": 8}), [9], 100),
                                          "two": ((2, {"p": ("pt", (4, 5))}), [3, 3], 0)},
                                         {"c": [("pt", (1, 2))], "d": [6, 5]}))
        self.assertEqual(house.weave(["one", "one", "two", "two", "two"]), 5)
        self.assertEqual(all_of(house), ({"one": ((5, {"n": 7, "m": 6}), [9, 13], 102),
                                          "two": ((1, {"p": ("pt", (1, 2))}), [3, 3], 3)},
                                         {"c": [], "d": [5, 40]}))

    def test_at_the_begin(self):
        house = Plain(PAIR)
        self.assertEqual(all_of(plain_at(PAIR, *dicts_of(house))), all_of(house))

    def test_a_still_one(self):
        stands = {"a": (7, {"n": 7}), "b": (1, {})}
        house = plain_at(SELF, stands, {"s": [1, 2]}, {"a": [], "b": []}, {"a": 0, "b": 0})
        self.assertIs(house.still(), True)
        stands["b"] = (0, {})
        self.assertIs(house.still(), True)
        house = plain_at(SELF, stands, {"s": [1, 2]}, {"a": [], "b": []}, {"a": 0, "b": 0})
        self.assertIs(house.still(), False)

    def test_what_the_dicts_lack_is_as_at_the_begin(self):
        self.assertEqual(all_of(plain_at(PAIR, {}, {}, {}, {})), all_of(Plain(PAIR)))
        house = plain_at(PAIR, {"one": (3, {"n": 1, "m": 2})}, {"d": [4]}, {"two": [5]}, {"one": 6})
        self.assertEqual(all_of(house), ({"one": ((3, {"n": 1, "m": 2}), [], 6),
                                          "two": ((0, {"p": ("pt", (0, 0))}), [5], 0)},
                                         {"c": [], "d": [4]}))

    def test_without_hands(self):
        house = plain_at(((), (), ()), {}, {}, {}, {})
        self.assertIs(house.still(), True)


class Own(unittest.TestCase):
    def test_all_that_is_told_changed_by_the_asker(self):
        source = random.Random(56)
        for make in [PAIR, SELF]:
            house = Plain(make)
            other = Plain(make)
            for h in stirred(source, make, 40):
                self.spoil(house)
                self.assertEqual(house.step(h), other.step(h))
                self.assertEqual(all_of(house), all_of(other))

    def spoil(self, house):
        before = all_of(house)
        for hand in house.make[2]:
            for _ in range(2):
                boxes = house.stand(hand[0])[1]
                for x in list(boxes):
                    boxes[x] = 77
                boxes.clear()
                house.told(hand[0]).append(5)
                house.told(hand[0]).clear()
        for channel in house.make[1]:
            house.letters(channel[0]).append(0)
            house.letters(channel[0]).clear()
        self.assertEqual(all_of(house), before)

    def test_what_was_told_stays_when_the_house_goes_on(self):
        house = Plain(PAIR)
        for h in stirred(random.Random(57), PAIR, 40):
            told = all_of(house)
            before = copy.deepcopy(told)
            house.step(h)
            self.assertEqual(told, before)

    def test_what_was_handed_in_is_not_changed(self):
        hands = ["one", "two", "one", "two"]
        house = Plain(PAIR)
        house.weave(hands * 5)
        dicts = dicts_of(house)
        before = copy.deepcopy(dicts)
        other = plain_at(PAIR, *dicts)
        other.weave(hands)
        self.assertEqual(hands, ["one", "two", "one", "two"])
        other.weave(hands * 10)
        self.assertEqual(dicts, before)

    def test_what_was_handed_in_changed_behind_the_call(self):
        house = Plain(PAIR)
        house.weave(["one", "one", "two", "two", "two"])
        stands, letters, told, counts = dicts_of(house)
        other = plain_at(PAIR, stands, letters, told, counts)
        stands["one"][1]["n"] = 66
        stands["two"][1].clear()
        stands.clear()
        letters["c"].append(("pt", (9, 9)))
        letters["d"].clear()
        letters.clear()
        told["one"].append(4)
        told["two"].clear()
        told.clear()
        counts["one"] = 50
        counts.clear()
        self.assertEqual(all_of(other), all_of(house))
        self.assertEqual(other.weave(["one", "two"] * 9), house.weave(["one", "two"] * 9))
        self.assertEqual(all_of(other), all_of(house))

    def test_two_houses_hinder_not_one_another(self):
        one = Plain(PAIR)
        other = Plain(PAIR)
        one.weave(["one", "two"] * 20)
        self.assertEqual(all_of(other), all_of(Plain(PAIR)))


class Promise(unittest.TestCase):
    def test_as_told_once_more(self):
        source = random.Random(58)
        for _ in range(150):
            make = right_make(source)
            house = Plain(make)
            model = Model(make)
            for h in stirred(source, make, 60):
                self.assertIs(house.step(h), model.step(h))
                for hand in [hand[0] for hand in make[2]]:
                    self.assertEqual(house.stand(hand), (model.row[hand], model.boxes[hand]))
                    self.assertEqual((house.told(hand), house.count(hand)), (model.told[hand], model.count[hand]))
                for channel in make[1]:
                    self.assertEqual(house.letters(channel[0]), model.letters(channel[0]))

    def test_each_box_and_letter_keeps_its_kind(self):
        source = random.Random(59)
        for _ in range(100):
            make = right_make(source)
            house = Plain(make)
            for h in stirred(source, make, 60):
                house.step(h)
                row, values = house.stand(h)
                boxes = hand_of(make, h)[1]
                self.assertEqual(list(values), [x for x, _ in boxes])
                self.assertTrue(all(is_of(KINDS, kind, values[x]) for x, kind in boxes))
                for c, _, _, kind in make[1]:
                    self.assertTrue(all(is_of(KINDS, kind, letter) for letter in house.letters(c)))
                self.assertTrue(all(is_of(KINDS, "num", told) for told in house.told(h)))

    def test_two_weavings_of_one_count_come_to_the_same_house(self):
        source = random.Random(60)
        for _ in range(100):
            make = right_make(source)
            one = Plain(make)
            one.weave(stirred(source, make, 60))
            other = self.other_weaving(source, one)
            self.assertEqual(all_of(other), all_of(one))

    def other_weaving(self, source, one):
        """A house come to by another weaving in which each hand counts as many."""
        other = Plain(one.make)
        hands = [hand[0] for hand in one.make[2]]
        while any(other.count(h) < one.count(h) for h in hands):
            h = source.choice([h for h in hands if other.count(h) < one.count(h)])
            # A hand is driven as far as it can, so that the weaving is much unlike the first.
            while other.count(h) < one.count(h) and other.step(h):
                pass
        return other

    def test_each_hand_is_as_the_lone_one(self):
        source = random.Random(61)
        for _ in range(100):
            make = right_make(source)
            house = Plain(make)
            model = Model(make)
            for h in stirred(source, make, 60):
                house.step(h)
                model.step(h)
            for hand in [hand[0] for hand in make[2]]:
                self.check_lone(make, house, model, hand)

    def check_lone(self, make, house, model, h):
        taken = {channel[0]: model.sent[channel[0]][:model.taken[channel[0]]] for channel in make[1]}
        lone = Lone(make, h, taken)
        for _ in range(house.count(h)):
            self.assertIs(lone.step(), True)
        self.assertEqual((lone.stand(), lone.told(), lone.count()), (house.stand(h), house.told(h), house.count(h)))
        self.assertEqual(lone.sent(), {c: model.sent[c] for c, sender, _, _ in make[1] if sender == h})
        self.assertEqual(lone.left(), {c: [] for c, _, to, _ in make[1] if to == h})
