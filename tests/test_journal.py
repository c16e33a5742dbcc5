"""Journals [2], [27], [28], [29]."""

import itertools
import random

from swapstride.codes import house_code
from swapstride.errors import NoCode
from swapstride.journal import entry_of, read_journal
from swapstride.mixed import Mixed, same
from swapstride.overs import Over
from swapstride.words import WIDE
from tests.test_codes import NONE, ONE, OVER, TRIO
from tests.test_mixed import FIRST, HANDS, SECOND, Checks, all_of, runs, twin_of

NUMBERS = {"step": 0, "over": 1, "back": 2}
# Some of these do nothing: the goings back of elder hands, the changings over of changed ones, waiting takes.
DEEDS = [("back", "feed"), ("step", "one"), ("step", "feed"), ("step", "feed"), ("over", "feed"), ("step", "feed"),
         ("step", "feed"), ("over", "one"), ("over", "one"), ("step", "one"), ("back", "one"), ("step", "one"),
         ("step", "one"), ("step", "one"), ("over", "two"), ("step", "two"), ("back", "two"), ("step", "two")]


def entry(over, word, h, n):
    """The numbers of a deed, told once more."""
    one = NUMBERS[word]
    other = [hand[0] for hand in over.first[2]].index(h)
    return [one, other, (one + 5 * other + 11 * n + 1) % WIDE]


def entries(over, deeds):
    return [number for n, deed in enumerate(deeds) for number in entry(over, *deed, n)]


def made(over, deeds):
    """The house to which deeds lead."""
    house = Mixed(over)
    for word, h in deeds:
        house.deed(word, h)
    return house


class Base(Checks):
    def read(self, over, numbers, house, many):
        """A journal is read to a house and so many deeds; the list stays."""
        handed = list(numbers)
        told = read_journal(over, handed)
        self.assertEqual(handed, numbers)
        self.assertEqual([type(told), type(told[0]), type(told[1]), len(told)], [tuple, Mixed, int, 2])
        self.assertEqual(told[1], many)
        self.assertIs(same(told[0], house), True)
        self.assertEqual(all_of(told[0]), all_of(house))
        self.assertEqual(house_code(told[0]), house_code(house))
        self.assertIs(told[0].over, over)


class Entry(Base):
    def test_each_word_and_hand(self):
        self.assertEqual([entry_of(TRIO, word, h, 0) for word in ["step", "over", "back"] for h in HANDS],
                         [[0, 0, 1], [0, 1, 6], [0, 2, 11], [1, 0, 2], [1, 1, 7], [1, 2, 12], [2, 0, 3], [2, 1, 8],
                          [2, 2, 13]])

    def test_the_deeds_ahead(self):
        self.assertEqual([entry_of(TRIO, "over", "one", n)[2] for n in [0, 1, 2, 3, 10, 400]],
                         [7, 18, 29, 40, 117, 4407])
        for n in [1, 2, 100]:
            self.assertEqual(entry_of(TRIO, "back", "two", n)[:2], [2, 2])

    def test_the_rest_by_wide(self):
        # 11 times this is 4 less than WIDE.
        n = (WIDE - 4) // 11
        self.assertEqual(WIDE - 11 * n, 4)
        self.assertEqual([entry_of(TRIO, "step", "feed", n), entry_of(TRIO, "back", "feed", n),
                          entry_of(TRIO, "step", "one", n), entry_of(TRIO, "back", "two", n)],
                         [[0, 0, WIDE - 3], [2, 0, WIDE - 1], [0, 1, 2], [2, 2, 9]])
        self.assertEqual(entry_of(TRIO, "step", "feed", n + 1), [0, 0, 8])
        for n in [WIDE - 1, WIDE, WIDE + 1, 10 ** 30]:
            self.assertEqual(entry_of(TRIO, "over", "two", n), [1, 2, (12 + 11 * n) % WIDE])

    def test_told_once_more(self):
        source = random.Random(150)
        for over, deeds in runs(151, 30):
            for word, h in deeds:
                n = source.choice([source.randrange(500), source.randrange(WIDE)])
                told = entry_of(over, word, h, n)
                self.assertEqual(told, entry(over, word, h, n))
                self.assertEqual([type(told)] + [type(number) for number in told], [list, int, int, int])

    def test_by_the_names_of_its_arguments(self):
        self.assertEqual(entry_of(over=TRIO, word="over", h="one", n=2), [1, 1, 29])

    def test_changed_by_the_asker(self):
        entry_of(TRIO, "over", "one", 2).clear()
        self.assertEqual(entry_of(TRIO, "over", "one", 2), [1, 1, 29])


class Right(Base):
    def test_a_code_alone(self):
        for over in [TRIO, OVER, ONE, NONE]:
            self.read(over, house_code(Mixed(over)), Mixed(over), 0)

    def test_deeds_that_do_things_and_that_do_nothing(self):
        done = [made(TRIO, DEEDS[:n]).deed(*deed) for n, deed in enumerate(DEEDS)]
        self.assertEqual(done.count(False), 4)
        begin = house_code(Mixed(TRIO))
        for n in range(len(DEEDS) + 1):
            self.read(TRIO, begin + entries(TRIO, DEEDS[:n]), made(TRIO, DEEDS[:n]), n)

    def test_deeds_alone_that_do_nothing(self):
        deeds = [("back", h) for h in HANDS] + [("step", "one"), ("step", "two"), ("over", "feed")]
        self.read(TRIO, house_code(Mixed(TRIO)) + entries(TRIO, deeds), Mixed(TRIO), 6)

    def test_a_begin_amid(self):
        for at in range(len(DEEDS)):
            begin = made(TRIO, DEEDS[:at])
            self.read(TRIO, house_code(begin) + entries(TRIO, DEEDS[at:]), made(TRIO, DEEDS), len(DEEDS) - at)

    def test_by_the_names_of_its_arguments(self):
        told = read_journal(over=TRIO, numbers=house_code(Mixed(TRIO)) + [0, 0, 1])
        self.assertEqual((told[0].count("feed"), told[1]), (1, 1))

    def test_asked_again_and_changed_behind_the_call(self):
        numbers = house_code(Mixed(TRIO)) + entries(TRIO, DEEDS)
        one = read_journal(TRIO, numbers)[0]
        for h in HANDS * 5:
            one.step(h)
        self.read(TRIO, list(numbers), made(TRIO, DEEDS), len(DEEDS))
        one = read_journal(TRIO, numbers)[0]
        numbers.clear()
        self.assertIs(same(one, made(TRIO, DEEDS)), True)

    def test_four_hundred_deeds(self):
        deeds = [(word, h) for word, h in itertools.islice(itertools.cycle(
            [("step", "feed"), ("step", "one"), ("over", "one"), ("step", "two"), ("step", "feed")]), 400)]
        self.read(TRIO, house_code(Mixed(TRIO)) + entries(TRIO, deeds), made(TRIO, deeds), 400)


class Left(Base):
    """What is behind the last right deed is left out."""

    def test_cut_at_every_place_behind_the_code(self):
        numbers = house_code(Mixed(TRIO)) + entries(TRIO, DEEDS)
        size = numbers[0]
        for cut in range(size, len(numbers) + 1):
            many = (cut - size) // 3
            self.read(TRIO, numbers[:cut], made(TRIO, DEEDS[:many]), many)

    def test_each_number_of_a_deed_changed(self):
        begin = house_code(Mixed(TRIO))
        whole = entries(TRIO, DEEDS)
        source = random.Random(152)
        for at, number in enumerate(whole):
            many = at // 3
            house = made(TRIO, DEEDS[:many])
            for other in [number + 1, number - 1, number + 11, number - 11, number + 5, 0, 1, 2, 3, 4, WIDE - 1,
                          source.randrange(WIDE), (number + WIDE // 2) % WIDE]:
                if 0 <= other < WIDE and other != number:
                    self.read(TRIO, begin + whole[:at] + [other] + whole[at + 1:], house, many)

    def test_two_numbers_changed_that_together_are_right(self):
        # Another word or hand with the sum for it is another deed, and right.
        begin = house_code(Mixed(TRIO))
        self.read(TRIO, begin + [0, 0, 1], made(TRIO, [("step", "feed")]), 1)
        self.read(TRIO, begin + [1, 1, 7], made(TRIO, [("over", "one")]), 1)

    def test_no_word_and_no_hand(self):
        begin = house_code(Mixed(TRIO))
        for one, other in [(3, 0), (4, 1), (0, 3), (2, 3), (0, 4), (1, WIDE - 1), (WIDE - 1, 0), (3, 3),
                           (WIDE - 3, 0), (0, WIDE - 3)]:
            self.read(TRIO, begin + [one, other, (one + 5 * other + 1) % WIDE], Mixed(TRIO), 0)
        self.read(ONE, house_code(Mixed(ONE)) + [0, 1, 6], Mixed(ONE), 0)
        self.read(ONE, house_code(Mixed(ONE)) + [0, 0, 1], Mixed(ONE), 1)
        self.read(NONE, house_code(Mixed(NONE)) + [0, 0, 1], Mixed(NONE), 0)

    def test_a_deed_by_another_number_ahead(self):
        begin = house_code(Mixed(TRIO))
        for n in [0, 2, 3, WIDE]:
            numbers = begin + entry(TRIO, "step", "feed", 0) + entry(TRIO, "step", "feed", n)
            self.read(TRIO, numbers, made(TRIO, [("step", "feed")]), 1)

    def test_a_right_deed_behind_a_wrong_one(self):
        begin = house_code(Mixed(TRIO))
        deeds = [("step", "feed"), ("step", "feed")]
        for wrong in [[0, 0, 0], [3, 0, 26], [0, 0, 1], [0, 0, 24], [0, 0], [0]]:
            for n in [2, 3]:
                numbers = begin + entries(TRIO, deeds) + wrong + entry(TRIO, "step", "feed", n)
                self.read(TRIO, numbers, made(TRIO, deeds), 2)
        # One number too many behind a right one.
        deeds = deeds + [("step", "feed")]
        for n in [3, 4]:
            self.read(TRIO, begin + entries(TRIO, deeds) + [0] + entry(TRIO, "step", "feed", n), made(TRIO, deeds), 3)

    def test_numbers_behind_that_are_no_deed(self):
        begin = house_code(Mixed(TRIO))
        whole = begin + entries(TRIO, DEEDS)
        for more in [[0], [7], [0, 0], [1, 2], [0, 0, 0], [9, 9, 9], [0] * 30, begin, whole, [WIDE - 1] * 4]:
            self.read(TRIO, whole + more, made(TRIO, DEEDS), len(DEEDS))
            self.read(TRIO, begin + [9] + more, Mixed(TRIO), 0)

    def test_the_next_deed_is_read_by_its_own_number(self):
        deeds = DEEDS + [("step", "feed")]
        numbers = house_code(Mixed(TRIO)) + entries(TRIO, DEEDS) + entry(TRIO, "step", "feed", len(DEEDS))
        self.read(TRIO, numbers, made(TRIO, deeds), len(deeds))


class Refused(Base):
    def no_code(self, over, numbers):
        handed = list(numbers)
        with self.assertRaises(NoCode):
            read_journal(over, handed)
        self.assertEqual(handed, numbers)

    def test_cut_within_the_code(self):
        for over in [TRIO, OVER, ONE, NONE]:
            numbers = house_code(Mixed(over))
            for cut in range(len(numbers)):
                self.no_code(over, numbers[:cut])
        code = house_code(made(TRIO, DEEDS))
        for cut in range(len(code)):
            self.no_code(TRIO, code[:cut])

    def test_the_last_of_the_code_is_not_the_sum(self):
        code = house_code(made(TRIO, DEEDS))
        for other in [code[-1] + 1, code[-1] - 1, 0, WIDE - 1]:
            for behind in [[], entries(TRIO, DEEDS), [other], [code[-1]]]:
                self.no_code(TRIO, code[:-1] + [other] + behind)

    def test_a_number_of_the_code_changed(self):
        code = house_code(made(TRIO, DEEDS))
        for at, number in enumerate(code[1:], start=1):
            self.no_code(TRIO, code[:at] + [number + 1] + code[at + 1:] + entries(TRIO, DEEDS))

    def test_another_first_number(self):
        code = house_code(made(TRIO, DEEDS))
        for first in [0, 1, len(code) - 1, len(code) + 1, len(code) + 3, WIDE - 1]:
            for behind in [[], entries(TRIO, DEEDS)]:
                self.no_code(TRIO, [first] + code[1:] + behind)

    def test_no_code_ahead_of_deeds(self):
        self.no_code(TRIO, [])
        self.no_code(TRIO, entries(TRIO, DEEDS))
        self.no_code(TRIO, [0])
        self.no_code(TRIO, [1])


class Chance(Base):
    def test_at_every_cut(self):
        """From a house amid, against the same deeds without a journal."""
        seen = 0
        for over, deeds in runs(153, 30, 40):
            begin = made(over, deeds[:10])
            numbers = house_code(begin) + entries(over, deeds[10:])
            size = numbers[0]
            house = twin_of(begin)
            for n, (word, h) in enumerate(deeds[10:]):
                for cut in range(3):
                    self.read(over, numbers[:size + 3 * n + cut], house, n)
                    seen += 1
                house.deed(word, h)
            self.read(over, numbers, house, len(deeds) - 10)
        self.assertGreater(seen, 1000)

    def test_other_overs_alike(self):
        numbers = house_code(Mixed(TRIO)) + entries(TRIO, DEEDS)
        other = Over(FIRST, SECOND, {}, {})
        self.read(other, numbers, made(other, DEEDS), len(DEEDS))
