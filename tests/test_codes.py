"""Houses as numbers [2], [28], with [24], [25]."""

import copy
import itertools
import random

from swapstride.codes import house_code, house_of
from swapstride.errors import NoCode
from swapstride.mixed import Mixed, same
from swapstride.overs import Over
from swapstride.reader import read
from swapstride.words import WIDE
from tests.test_mixed import FIRST, HANDS, SECOND, Checks, all_of, do, new, old, runs, trio, twin_of
from tests.test_same import BY_OTHER_DEEDS, LETTERS, OTHER_LETTERS, STAIR, TAKEN, other_befores

# Recs and alts within one another, in letters and boxes; the greatest number is told, sent and kept.
RICH = read("""rec none
rec pt x num y num
alt way off none on pt by num
alt big w way p pt
channel c a b big
channel d b a way
hand a
box w way
box b big
box n num
set n (- 0 1)
send c (tag big w (tag way on (rec pt n 7)))
send c (tag big w (tag way off (rec none)))
send c (tag big p (rec pt 3 n))
tell n
take k d w
send c (tag big w w)
tell 0
end
hand b
box b big
box w way
box n num
take l c b
set w (case b (w v v) (p v (tag way by (get v y))))
send d w
tell (case w (off v 5) (on v (get v x)) (by v v))
go 0""")
OVER = Over(RICH, RICH, {}, {})
TRIO = Over(FIRST, SECOND, {}, {})
ONE = Over(read("hand h\nend"), read("hand h\nend"), {}, {})
NONE = Over(((), (), ()), ((), (), ()), {}, {})


class Base(Checks):
    def right(self, house):
        """The numbers of a house, which keep to what is told of all of them, and are read back to the same."""
        before = all_of(house)
        twin = twin_of(house)
        numbers = house_code(house)
        self.assertIs(type(numbers), list)
        self.assertEqual({type(number) for number in numbers}, {int})
        self.assertTrue(all(0 <= number < WIDE for number in numbers))
        self.assertEqual(numbers[0], len(numbers))
        self.assertEqual(numbers[-1], sum(numbers[:-1]) % WIDE)
        handed = list(numbers)
        found = house_of(house.over, handed)
        self.assertEqual(handed, numbers)
        self.assertIs(type(found), Mixed)
        self.assertIs(found.over, house.over)
        self.assertEqual(all_of(found), before)
        for one, other in itertools.permutations([house, twin, found], 2):
            self.assertIs(same(one, other), True)
        self.assertEqual(house_code(found), numbers)
        self.assertEqual(house_code(house), numbers)
        return numbers

    def made(self, over, text):
        house = Mixed(over)
        do(house, text)
        return house

    def alike(self, one, other, told):
        """Whether two houses are the same, and have the same numbers."""
        self.assertIs(same(one, other), told)
        self.assertIs(self.right(one) == self.right(other), told)


class Written(Base):
    def test_at_the_begin(self):
        for over in [TRIO, OVER, ONE, NONE, Over(STAIR, STAIR, {}, {})]:
            self.right(Mixed(over))

    def test_makes_without_hands(self):
        self.assertEqual(house_code(Mixed(NONE)), [2, 2])

    def test_one_hand(self):
        make = read("channel c h h num\nhand h\nbox n num\nsend c 4\ntake m c n\ntell n\ngo 0")
        house = Mixed(Over(make, make, {}, {}))
        found = [self.right(house)]
        for text in ["h", "h!", "h", "h", "h", "h", "h"]:
            self.done(house, text)
            found.append(self.right(house))
        self.assertEqual(len({tuple(each) for each in found}), len(found))

    def test_a_run_of_several_hands(self):
        house = trio()
        for text in ["feed*5", "one*5", "two*4", "one!", "feed*5", "one*5", "two!", "two*3", "feed", "feed!", "two?",
                     "two!", "two*5", "feed*4", "one*5", "two*2"]:
            do(house, text)
            self.right(house)

    def test_recs_and_alts(self):
        house = Mixed(OVER)
        for text in ["a*5", "b*2", "b!", "b*2", "b", "a", "a!", "a", "b*4", "b*4", "b*6", "a*3"]:
            do(house, text)
            self.right(house)
        self.assertEqual(house.told("a"), [WIDE - 1, 0])
        self.assertEqual(house.told("b"), [WIDE - 1, 5, WIDE - 1, WIDE - 1])

    def test_the_greatest_numbers(self):
        house = self.made(OVER, "a*5 b")
        self.assertIn(WIDE - 1, house.told("a"))
        self.assertIn(WIDE - 1, self.right(house))

    def test_counts_of_any_greatness(self):
        found = []
        for count in [0, 1, WIDE - 1, WIDE, WIDE + 1, 2 * WIDE, WIDE * WIDE - 1, WIDE * WIDE, WIDE ** 5 + 3]:
            house = self.made(OVER, "a*3 b!")
            house.counts["a"] = count
            found.append(self.right(house))
            self.assertEqual(house_of(OVER, found[-1]).count("a"), count)
            house = self.made(OVER, "a*3 b!")
            house.befores["b"] = (house.befores["b"][0], count, house.befores["b"][2])
            found.append(self.right(house))
            back = house_of(OVER, found[-1])
            self.assertIs(back.back("b"), True)
            self.assertEqual(back.count("b"), count)
        self.assertEqual(len({tuple(each) for each in found}), len(found))

    def test_long_rows_of_letters(self):
        make = read("rec pt x num y num\nchannel c a b pt\nhand a\nbox n num\nset n (+ n 1)\n"
                    "send c (rec pt n (* n n))\ngo 0\nhand b\nbox p pt\ntake m c p\ngo 0")
        house = Mixed(Over(make, make, {}, {}))
        self.done(house, "a*9000")
        numbers = self.right(house)
        self.assertEqual(len(house_of(house.over, numbers).letters("c")), 3000)
        self.done(house, "b! b*4000")
        found = house_of(house.over, self.right(house))
        self.assertIs(found.back("b"), True)
        self.assertEqual(found.letters("c"), [(1, ("pt", (n, n * n))) for n in range(1, 3001)])

    def test_many_tellings(self):
        make = read("hand h\nbox n num\ntell n\nset n (+ n 1)\ngo 0")
        house = Mixed(Over(make, make, {}, {}))
        self.done(house, "h*3000")
        self.assertEqual(house_of(house.over, self.right(house)).told("h"), list(range(1000)))

    def test_by_the_names_of_its_arguments(self):
        numbers = house_code(mixed=trio())
        self.assertIs(same(house_of(over=TRIO, numbers=numbers), Mixed(TRIO)), True)

    def test_what_was_told_changed_by_the_asker(self):
        house = self.made(TRIO, "feed*5 one*5 two! two*2")
        before = house_code(house)
        told = house_code(house)
        told[3] = 77
        told.clear()
        self.assertEqual(house_code(house), before)
        house.step("feed")
        self.assertNotEqual(house_code(house), before)

    def test_the_list_is_not_kept(self):
        house = self.made(TRIO, "feed*5 one*5 two! two*2")
        numbers = house_code(house)
        found = house_of(TRIO, numbers)
        numbers.clear()
        self.assertIs(same(found, house), True)
        again = house_of(TRIO, house_code(house))
        do(found, "two? two feed*3 one!")
        self.assertIs(same(again, house), True)


class Alike(Base):
    def test_by_other_deeds(self):
        for one, other in BY_OTHER_DEEDS:
            self.alike(self.made(TRIO, one), self.made(TRIO, other), True)

    def test_of_two_overs_made_alike(self):
        self.assertEqual(house_code(trio()), house_code(trio()))

    def pair(self):
        return [self.made(TRIO, LETTERS) for _ in range(2)]

    def test_only_in_one_thing(self):
        """Each by itself, put into a house by hand."""
        one, other = self.pair()
        self.alike(one, other, True)
        self.letters(one, c=[new(2, 9, 5)], e=[(1, 1), (2, 5)])
        row, boxes = one.stands["feed"]
        for stand in [(row + 1, boxes), (row, {**boxes, "n": 77}), (row, {**boxes, "t": 0}),
                      (row, {"n": boxes["t"], "t": boxes["n"]})]:
            one, other = self.pair()
            other.stands["feed"] = stand
            self.alike(one, other, False)
        for c, letters in OTHER_LETTERS:
            one, other = self.pair()
            other.between[c] = list(letters)
            self.alike(one, other, False)
        for h in HANDS:
            one, other = self.pair()
            other.tellings[h].append(0)
            self.alike(one, other, False)
            one, other = self.pair()
            other.counts[h] = other.counts[h] + 1
            self.alike(one, other, False)

    def test_letters_in_another_channel(self):
        one, other = self.pair()
        one.between["s"], other.between["d"] = [(1, 3)], [(1, 3)]
        self.alike(one, other, False)

    def test_tellings_and_letters_of_many_forms_are_all_unlike(self):
        """Where what is told, counted and sent has the same numbers in it, only parted otherwise."""
        make = read("channel c a b num\nchannel d a b num\nhand a\nend\nhand b\nend")
        over = Over(make, make, {}, {})
        found = {}
        for told, other, c, d in itertools.product([[], [0], [1], [0, 0], [0, 1], [1, 0], [1, 1], [2]], [[], [0], [1]],
                                                   [[], [(1, 0)], [(1, 1)], [(2, 1)], [(1, 2), (1, 1)]],
                                                   [[], [(1, 0)], [(2, 0)], [(1, 1)], [(1, 2)]]):
            for count in [0, 1, WIDE]:
                house = Mixed(over)
                house.tellings["a"], house.tellings["b"] = list(told), list(other)
                house.between["c"], house.between["d"] = list(c), list(d)
                house.counts["a"] = count
                found[tuple(self.right(house))] = True
        self.assertEqual(len(found), 8 * 3 * 5 * 5 * 3)

    def test_each_value_of_a_kind(self):
        values = [("big", "w", ("way", "off", ("none", ()))), ("big", "w", ("way", "by", 0)),
                  ("big", "w", ("way", "by", 1)), ("big", "w", ("way", "on", ("pt", (0, 0)))),
                  ("big", "w", ("way", "on", ("pt", (0, 1)))), ("big", "w", ("way", "on", ("pt", (1, 0)))),
                  ("big", "p", ("pt", (0, 0))), ("big", "p", ("pt", (1, 0))), ("big", "p", ("pt", (0, 1))),
                  ("big", "p", ("pt", (2, 0)))]
        found = {}
        for one, other in itertools.product(values, values):
            house = Mixed(OVER)
            house.between["c"] = [(1, one), (2, other)]
            house.stands["b"] = (0, {**house.stands["b"][1], "b": other})
            found[tuple(self.right(house))] = True
        self.assertEqual(len(found), len(values) ** 2)

    def test_what_going_back_needs(self):
        over = Over(STAIR, STAIR, {}, {})
        one, other = self.made(over, "a b b! b"), self.made(over, "a b b b!")
        self.assertEqual(all_of(one), all_of(other))
        self.alike(one, other, False)
        for house in [one, other]:
            self.done(house, "a a b")
        self.alike(one, other, False)
        # Behind a sending nothing of it is left.
        for house in [one, other]:
            self.done(house, "b")
        self.alike(one, other, True)
        for house in [one, other]:
            self.done(house, "b")
        self.alike(one, other, True)

    def test_nothing_of_it_is_written_behind_a_telling_or_sending(self):
        for text, more in [("feed*10 one*5 one! one*5 two! two*5", "two"), ("feed*5 one! one*2", "one")]:
            house = self.made(TRIO, text)
            h = more
            with_it = self.right(house)
            twin = twin_of(house)
            twin.befores[h] = None
            self.assertLess(len(self.right(twin)), len(with_it))
            # By the step itself one number more is told, or a letter of two sent.
            self.done(house, more)
            self.done(twin, more)
            self.alike(house, twin, True)
            self.assertLess(len(self.right(house)), len(with_it))

    def test_each_thing_that_going_back_needs(self):
        """Each by itself, put into a house by hand; all that is told stays the same."""
        stand, count, taken = self.made(TRIO, TAKEN).befores["two"]
        self.assertEqual(taken, {"c": [old(1, 1), new(2, 9, 5)], "e": [(1, 1)]})
        for other in other_befores(stand, count, taken):
            house = self.made(TRIO, TAKEN)
            house.befores["two"] = copy.deepcopy(other)
            self.assertEqual(all_of(house), all_of(self.made(TRIO, TAKEN)))
            self.alike(house, self.made(TRIO, TAKEN), False)

    def test_an_elder_and_a_changed_hand_that_stand_alike(self):
        make = read("channel c h h num\nhand h\nbox n num\nsend c 1\ntake m c n\ngo 0")
        over = Over(make, make, {}, {})
        self.alike(self.made(over, "h"), self.made(over, "h h!"), False)

    def test_houses_of_chance(self):
        """All houses that many deeds come to, against one another."""
        seen = 0
        for over, deeds in runs(140, 25, 50):
            house, twin = Mixed(over), Mixed(over)
            found = []
            for (word, h), (other, g) in zip(deeds, reversed(deeds)):
                house.deed(word, h)
                twin.deed(other, g)
                found += [(twin_of(house), house_code(house)), (twin_of(twin), house_code(twin))]
            for (one, code), (other, number) in itertools.combinations(found, 2):
                self.assertIs(same(one, other), code == number)
                seen += code == number
        self.assertGreater(seen, 500)


class Read(Base):
    def test_goes_on_alike_by_every_deed(self):
        seen = {}
        for over, deeds in runs(141, 30, 50):
            house = Mixed(over)
            for word, h in deeds:
                house.deed(word, h)
                for each, hand in itertools.product(["step", "over", "back"], over.first[2]):
                    one, other = twin_of(house), house_of(over, house_code(house))
                    told = one.deed(each, hand[0])
                    self.assertIs(other.deed(each, hand[0]), told)
                    self.assertIs(same(one, other), True)
                    seen[(each, told)] = seen.get((each, told), 0) + 1
        self.assertEqual(len(seen), 6)
        self.assertGreater(min(seen.values()), 100)

    def test_read_anew_behind_each_deed(self):
        for over, deeds in runs(142, 40, 80):
            house, twin = Mixed(over), Mixed(over)
            for word, h in deeds:
                self.assertIs(house.deed(word, h), twin.deed(word, h))
                self.right(house)
                twin = house_of(over, house_code(twin))
                self.assertIs(same(house, twin), True)
                self.assertEqual(house_code(house), house_code(twin))

    def test_what_is_read_changes_nothing_of_another(self):
        house = self.made(TRIO, TAKEN)
        numbers = house_code(house)
        one, other = house_of(TRIO, numbers), house_of(TRIO, numbers)
        self.done(one, "two two?")
        self.done(one, "two*4")
        self.assertIs(same(house, other), True)
        self.assertEqual(house_code(other), numbers)


class Refused(Base):
    def no_code(self, over, numbers):
        handed = list(numbers)
        for _ in range(2):
            with self.assertRaises(NoCode):
                house_of(over, handed)
        self.assertEqual(handed, numbers)

    def codes(self):
        return [(NONE, house_code(Mixed(NONE))), (ONE, house_code(Mixed(ONE)))] + [
            (over, house_code(self.made(over, text)))
            for over, text in [(TRIO, TAKEN), (TRIO, ""), (OVER, "a*4 b! b")]]

    def test_the_list_without_numbers(self):
        for over, _ in self.codes():
            self.no_code(over, [])

    def test_one_number(self):
        for number in [0, 1, 2, WIDE - 1]:
            self.no_code(TRIO, [number])
            self.no_code(NONE, [number])

    def test_too_short_and_too_long(self):
        for over, numbers in self.codes():
            for many in range(len(numbers)):
                self.no_code(over, numbers[:many])
                self.no_code(over, numbers[many + 1:])
            for more in [[0], [1], [numbers[-1]], [0, 0, 0], numbers]:
                self.no_code(over, numbers + more)
                self.no_code(over, more + numbers)
            for at in range(1, len(numbers)):
                self.no_code(over, numbers[:at] + [0] + numbers[at:])

    def test_too_short_or_too_long_with_the_sum_right(self):
        for over, numbers in self.codes():
            for inner in [numbers[:-2], numbers[:-1] + [0], numbers[:-1] + [5, 6]]:
                if inner:
                    self.no_code(over, inner + [sum(inner) % WIDE])

    def test_fewer_and_more_numbers_than_a_house_has(self):
        # The first and the last are right, but they lack some numbers of a house, or have others behind them.
        for over, numbers in self.codes():
            inner = numbers[1:-1]
            for other in [inner[:many] for many in range(len(inner))] + [inner + [0], inner + inner + [1]]:
                changed = [len(other) + 2] + other
                self.no_code(over, changed + [sum(changed) % WIDE])

    def test_one_number_changed(self):
        source = random.Random(143)
        for over, numbers in self.codes():
            for at, number in enumerate(numbers):
                for other in [number + 1, number - 1, 0, WIDE - 1, source.randrange(WIDE), number + len(numbers)]:
                    if 0 <= other < WIDE and other != number:
                        self.no_code(over, numbers[:at] + [other] + numbers[at + 1:])

    def test_another_first_number_with_the_sum_right(self):
        for over, numbers in self.codes():
            for first in [0, 1, numbers[0] - 1, numbers[0] + 1, WIDE - 1]:
                changed = [first] + numbers[1:-1]
                self.no_code(over, changed + [sum(changed) % WIDE])

    def test_the_sum_itself_is_not_asked_beyond_wide(self):
        house = self.made(OVER, "a*5")
        numbers = house_code(house)
        self.assertGreater(sum(numbers[:-1]), WIDE)
        self.assertEqual(numbers[-1], sum(numbers[:-1]) % WIDE)
        self.no_code(OVER, numbers[:-1] + [sum(numbers[:-1])])
