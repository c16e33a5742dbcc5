"""Houses kept through stops [2], [3], [8], [24], [25], [27], [28], [29], [30], [31]."""

import random

from swapstride.codes import house_code, house_of
from swapstride.journal import read_journal
from swapstride.kept import Kept
from swapstride.mixed import Mixed
from swapstride.overs import Over
from swapstride.reader import read
from tests.test_codes import NONE, OVER, TRIO
from tests.test_journal import DEEDS, entries, entry, made
from tests.test_mixed import FIRST, HANDS, SECOND, Checks, runs

# A hand that tells by every other row, and one that waits for ever.
TALE = read("channel c h g num\nhand h\nbox n num\ntell 5\nset n (+ n 1)\ntell n\ngo 0\n"
            "hand g\nbox m num\ntake k c m\ntell m\ngo 0")
TALES = Over(TALE, TALE, {}, {})


class KeptModel:
    """A kept house told once more: all deeds that are whole since the very begin, and how far the first thing asked is.

    start is how many of the deeds lie ahead of the journal's begin.
    """

    def __init__(self, over):
        self.over = over
        self.whole = []
        self.start = 0
        self.asked = []
        self.at = 0

    def begin(self):
        return house_code(made(self.over, self.whole[:self.start]))

    def steps(self):
        """How many small steps the first thing asked needs."""
        return 4 if self.asked[0] else len(house_code(made(self.over, self.whole))) + 1

    def step(self):
        if not self.asked:
            return False
        self.at += 1
        if self.at == self.steps():
            deed = self.asked.pop(0)
            self.at = 0
            if deed:
                self.whole.append(deed)
            else:
                self.start = len(self.whole)
        return True

    def stop(self):
        if self.asked and self.asked[0] and self.at == 3:
            self.whole.append(self.asked[0])
        self.asked = []
        self.at = 0

    def journal(self):
        numbers = self.begin() + entries(self.over, self.whole[self.start:])
        if self.asked and self.asked[0]:
            numbers += entry(self.over, *self.asked[0], len(self.whole) - self.start)[:self.at]
        return numbers


class Base(Checks):
    def all_of(self, kept):
        hands = [hand[0] for hand in kept.house.over.first[2]]
        return (kept.journal(), {h: kept.outside(h) for h in hands}, kept.torn(), kept.code())

    def as_told(self, kept, over, begin, deeds, partial):
        """The journal has a begin's code, deeds that are all done, and some numbers; the outside what they told.

        begin is how many of the deeds lie ahead of the journal's begin.
        """
        house = made(over, deeds)
        numbers = house_code(made(over, deeds[:begin])) + entries(over, deeds[begin:]) + partial
        self.assertEqual(self.all_of(kept), (numbers, {hand[0]: house.told(hand[0]) for hand in over.first[2]}, False,
                                             house_code(house)))

    def asked(self, over, deeds):
        kept = Kept(over)
        for word, h in deeds:
            self.assertIsNone(kept.ask(word, h))
        return kept

    def small(self, kept, many):
        for _ in range(many):
            self.assertIs(kept.step(), True)

    def idle(self, kept):
        before = self.all_of(kept)
        for _ in range(3):
            self.assertIs(kept.step(), False)
            self.assertEqual(self.all_of(kept), before)


class Asked(Base):
    def test_nothing_asked(self):
        for over in [TRIO, OVER, NONE]:
            kept = Kept(over)
            self.as_told(kept, over, 0, [], [])
            self.idle(kept)
            self.as_told(kept, over, 0, [], [])

    def test_the_asking_alone_changes_nothing(self):
        kept = self.asked(TRIO, DEEDS)
        self.assertIsNone(kept.pack())
        self.as_told(kept, TRIO, 0, [], [])

    def test_a_deed_by_four_small_steps(self):
        kept = self.asked(TRIO, [("step", "feed")])
        begin = house_code(Mixed(TRIO))
        for partial in [[0], [0, 0], [0, 0, 1]]:
            self.small(kept, 1)
            self.assertEqual(kept.journal(), begin + partial)
            self.as_told(kept, TRIO, 0, [], partial)
        self.small(kept, 1)
        self.assertEqual(kept.journal(), begin + [0, 0, 1])
        self.as_told(kept, TRIO, 0, [("step", "feed")], [])
        self.idle(kept)

    def test_what_a_deed_told_goes_outside_as_it_is_done(self):
        kept = self.asked(TALES, [("step", "h")])
        for _ in range(3):
            self.small(kept, 1)
            self.assertEqual((kept.outside("h"), kept.outside("g")), ([], []))
        self.small(kept, 1)
        self.assertEqual((kept.outside("h"), kept.outside("g")), ([5], []))
        for word, told in [("step", [5]), ("step", [5, 1]), ("step", [5, 1]), ("step", [5, 1, 5]), ("step", [5, 1, 5]),
                           ("step", [5, 1, 5, 2])]:
            before = kept.outside("h")
            kept.ask(word, "h")
            for _ in range(3):
                self.small(kept, 1)
                self.assertEqual(kept.outside("h"), before)
            self.small(kept, 1)
            self.assertEqual(kept.outside("h"), told)
        self.assertIs(kept.torn(), False)

    def test_deeds_that_do_nothing_likewise(self):
        deeds = [("back", "feed"), ("step", "one"), ("over", "feed")]
        kept = Kept(TRIO)
        for n, deed in enumerate(deeds):
            kept.ask(*deed)
            for many in range(1, 4):
                self.small(kept, 1)
                self.as_told(kept, TRIO, 0, deeds[:n], entry(TRIO, *deed, n)[:many])
            self.small(kept, 1)
            self.as_told(kept, TRIO, 0, deeds[:n + 1], [])
            self.idle(kept)
        self.assertEqual(kept.code(), house_code(Mixed(TRIO)))

    def test_several_asked_at_once(self):
        kept = self.asked(TRIO, DEEDS)
        for n, deed in enumerate(DEEDS):
            for many in range(4):
                self.as_told(kept, TRIO, 0, DEEDS[:n], entry(TRIO, *deed, n)[:many])
                self.small(kept, 1)
        self.as_told(kept, TRIO, 0, DEEDS, [])
        self.idle(kept)

    def test_asked_amid_a_deed(self):
        kept = self.asked(TRIO, [("step", "feed")])
        self.small(kept, 2)
        kept.ask("step", "feed")
        kept.pack()
        kept.ask("over", "one")
        self.small(kept, 2)
        self.as_told(kept, TRIO, 0, [("step", "feed")], [])
        self.small(kept, 4)
        deeds = [("step", "feed")] * 2
        self.as_told(kept, TRIO, 0, deeds, [])
        self.small(kept, len(kept.code()) + 1)
        self.as_told(kept, TRIO, 2, deeds, [])
        self.small(kept, 4)
        self.as_told(kept, TRIO, 2, deeds + [("over", "one")], [])
        self.idle(kept)

    def test_the_deeds_are_done_in_the_order_asked(self):
        one = self.asked(TRIO, [("over", "one"), ("back", "one")])
        other = self.asked(TRIO, [("back", "one"), ("over", "one")])
        for kept in [one, other]:
            self.small(kept, 8)
        self.assertEqual((house_of(TRIO, one.code()).make_of("one"), house_of(TRIO, other.code()).make_of("one")),
                         (1, 2))

    def test_the_journal_is_read_to_the_house(self):
        kept = self.asked(TRIO, DEEDS)
        self.small(kept, 4 * len(DEEDS))
        mixed, many = read_journal(TRIO, kept.journal())
        self.assertEqual((house_code(mixed), many), (kept.code(), len(DEEDS)))

    def test_by_the_names_of_its_arguments(self):
        kept = Kept(over=TRIO)
        self.assertIsNone(kept.ask(word="step", h="feed"))
        self.small(kept, 4)
        self.assertEqual(kept.outside(h="feed"), [])
        self.as_told(kept, TRIO, 0, [("step", "feed")], [])

    def test_what_is_told_is_of_its_kind(self):
        kept = self.asked(TALES, [("step", "h")])
        self.small(kept, 4)
        self.assertEqual([type(each) for each in [kept.journal(), kept.outside("h"), kept.torn(), kept.code()]],
                         [list, list, bool, list])
        self.assertIsNone(kept.stop())


class Packing(Base):
    def packed(self, deeds):
        """A kept house with deeds done, and packing asked."""
        kept = self.asked(TRIO, deeds)
        kept.pack()
        self.small(kept, 4 * len(deeds))
        self.as_told(kept, TRIO, 0, deeds, [])
        return kept

    def test_one_number_by_a_small_step_and_one_more(self):
        for deeds in [[], DEEDS[:3], DEEDS]:
            kept = self.packed(deeds)
            for _ in range(len(kept.code())):
                self.small(kept, 1)
                self.as_told(kept, TRIO, 0, deeds, [])
            self.small(kept, 1)
            self.as_told(kept, TRIO, len(deeds), deeds, [])
            self.assertEqual(kept.journal(), kept.code())
            self.idle(kept)

    def test_deeds_behind_it_are_counted_from_nought(self):
        kept = self.packed(DEEDS)
        self.small(kept, len(kept.code()) + 1)
        more = [("step", "two"), ("step", "one"), ("back", "two"), ("over", "feed")]
        for n, deed in enumerate(more):
            kept.ask(*deed)
            self.small(kept, 4)
            self.as_told(kept, TRIO, len(DEEDS), DEEDS + more[:n + 1], [])
            self.assertEqual(kept.journal()[-3:], entry(TRIO, *deed, n))
        self.assertEqual(read_journal(TRIO, kept.journal())[1], 4)

    def test_amid_asked_deeds(self):
        kept = self.asked(TRIO, DEEDS[:5])
        kept.pack()
        for deed in DEEDS[5:]:
            kept.ask(*deed)
        self.small(kept, 20)
        self.as_told(kept, TRIO, 0, DEEDS[:5], [])
        size = len(kept.code())
        for _ in range(size):
            self.small(kept, 1)
            self.as_told(kept, TRIO, 0, DEEDS[:5], [])
        self.small(kept, 1)
        self.as_told(kept, TRIO, 5, DEEDS[:5], [])
        for n, deed in enumerate(DEEDS[5:]):
            for many in range(1, 4):
                self.small(kept, 1)
                self.as_told(kept, TRIO, 5, DEEDS[:5 + n], entry(TRIO, *deed, n)[:many])
            self.small(kept, 1)
        self.as_told(kept, TRIO, 5, DEEDS, [])
        self.idle(kept)

    def test_asked_twice(self):
        kept = self.packed(DEEDS)
        kept.pack()
        size = len(kept.code())
        self.small(kept, size + 1)
        self.assertEqual(kept.journal(), kept.code())
        for _ in range(size + 1):
            self.small(kept, 1)
            self.assertEqual(kept.journal(), kept.code())
        self.idle(kept)
        kept.ask("step", "feed")
        self.small(kept, 4)
        self.assertEqual(kept.journal()[-3:], [0, 0, 1])

    def test_twice_with_deeds_between(self):
        kept = self.packed(DEEDS[:4])
        self.small(kept, len(kept.code()) + 1)
        for deed in DEEDS[4:9]:
            kept.ask(*deed)
        kept.pack()
        self.small(kept, 20)
        self.as_told(kept, TRIO, 4, DEEDS[:9], [])
        self.small(kept, len(kept.code()) + 1)
        self.as_told(kept, TRIO, 9, DEEDS[:9], [])

    def test_without_hands(self):
        kept = Kept(NONE)
        kept.pack()
        self.small(kept, 3)
        self.assertEqual((kept.journal(), kept.code()), ([2, 2], [2, 2]))
        self.idle(kept)
        self.assertIsNone(kept.stop())
        self.assertEqual((kept.journal(), kept.torn()), ([2, 2], False))

    def test_what_going_back_needs_is_kept(self):
        deeds = [("step", "feed"), ("over", "feed"), ("step", "feed")]
        kept = self.packed(deeds)
        self.small(kept, len(kept.code()) + 1)
        kept.stop()
        kept.ask("back", "feed")
        self.small(kept, 4)
        self.assertEqual(kept.code(), house_code(made(TRIO, [("step", "feed")])))


class Stops(Base):
    def test_at_the_begin(self):
        for over in [TRIO, OVER, NONE]:
            kept = Kept(over)
            for _ in range(2):
                self.assertIsNone(kept.stop())
                self.as_told(kept, over, 0, [], [])
                self.idle(kept)

    def test_what_is_asked_is_lost(self):
        kept = self.asked(TRIO, DEEDS)
        kept.pack()
        kept.stop()
        self.as_told(kept, TRIO, 0, [], [])
        self.idle(kept)
        kept.ask("step", "feed")
        self.small(kept, 4)
        self.as_told(kept, TRIO, 0, [("step", "feed")], [])

    def test_at_every_small_step_of_a_deed(self):
        for n in range(len(DEEDS)):
            for many in range(5):
                kept = self.asked(TRIO, DEEDS)
                self.small(kept, 4 * n + many)
                kept.stop()
                # A whole deed that wasn't done is done by the journal.
                left = DEEDS[:n + 1] if many >= 3 else DEEDS[:n]
                self.as_told(kept, TRIO, 0, left, [])
                self.idle(kept)
                kept.stop()
                self.as_told(kept, TRIO, 0, left, [])
                for deed in DEEDS[len(left):]:
                    kept.ask(*deed)
                self.small(kept, 4 * (len(DEEDS) - len(left)))
                self.as_told(kept, TRIO, 0, DEEDS, [])
                self.idle(kept)

    def test_a_telling_by_a_whole_deed_that_was_not_done(self):
        kept = self.asked(TALES, [("step", "h")] * 3)
        self.small(kept, 11)
        self.assertEqual(kept.outside("h"), [5])
        self.assertEqual(house_of(TALES, kept.code()).told("h"), [5])
        kept.stop()
        self.assertEqual((kept.outside("h"), kept.torn()), ([5, 1], False))
        self.assertEqual(house_of(TALES, kept.code()).told("h"), [5, 1])
        kept.ask("step", "h")
        kept.ask("step", "h")
        self.small(kept, 8)
        self.assertEqual((kept.outside("h"), kept.torn()), ([5, 1, 5], False))

    def test_at_every_small_step_of_a_packing(self):
        begin = DEEDS[:9]
        size = len(house_code(made(TRIO, begin)))
        for many in range(size + 2):
            kept = self.asked(TRIO, begin)
            kept.pack()
            kept.ask("step", "feed")
            self.small(kept, 4 * len(begin) + many)
            kept.stop()
            start = 9 if many == size + 1 else 0
            for _ in range(2):
                self.as_told(kept, TRIO, start, begin, [])
                self.idle(kept)
                kept.stop()
            # The page is lost: packing begins anew.
            kept.pack()
            self.small(kept, size)
            self.as_told(kept, TRIO, start, begin, [])
            self.small(kept, 1)
            self.as_told(kept, TRIO, 9, begin, [])
            self.idle(kept)

    def test_at_every_small_step_behind_a_packing(self):
        for many in range(4 * 5 + 1):
            kept = self.asked(TRIO, DEEDS[:9])
            kept.pack()
            for deed in DEEDS[9:14]:
                kept.ask(*deed)
            self.small(kept, 36 + len(house_code(made(TRIO, DEEDS[:9]))) + 1 + many)
            kept.stop()
            whole = 9 + (many + 1) // 4
            self.as_told(kept, TRIO, 9, DEEDS[:whole], [])
            kept.ask(*DEEDS[whole])
            self.small(kept, 4)
            self.as_told(kept, TRIO, 9, DEEDS[:whole + 1], [])

    def test_all_that_was_told_goes_outside_once_more(self):
        kept = self.asked(TALES, [("step", "h")] * 7)
        self.small(kept, 28)
        told = kept.outside("h")
        self.assertEqual(told, [5, 1, 5, 2])
        for _ in range(3):
            kept.stop()
            self.assertEqual((kept.outside("h"), kept.torn()), (told, False))

    def test_a_step_behind_a_stop_is_counted_on(self):
        kept = self.asked(TRIO, DEEDS[:4])
        self.small(kept, 10)
        kept.stop()
        self.as_told(kept, TRIO, 0, DEEDS[:2], [])
        kept.ask(*DEEDS[2])
        self.small(kept, 4)
        self.assertEqual(kept.journal()[-3:], entry(TRIO, *DEEDS[2], 2))


class Torn(Base):
    """By deeds and stops alone it never is; what came outside is changed by hand here."""

    def told(self):
        kept = self.asked(TALES, [("step", "h")] * 7)
        self.small(kept, 28)
        self.assertEqual(kept.outside("h"), [5, 1, 5, 2])
        return kept

    def test_an_unlike_one_tears_it_and_the_first_stays(self):
        for n in range(4):
            kept = self.told()
            kept.seen["h"][n] = 9
            before = kept.outside("h")
            self.assertIs(kept.torn(), False)
            kept.stop()
            self.assertIs(kept.torn(), True)
            self.assertEqual(kept.outside("h"), before)
            kept.stop()
            kept.ask("step", "g")
            self.small(kept, 4)
            self.assertIs(kept.torn(), True)

    def test_by_the_fourth_small_step_of_a_deed(self):
        for value, torn in [(5, False), (6, True)]:
            kept = self.told()
            kept.seen["h"].append(value)
            kept.ask("step", "h")
            kept.ask("step", "h")
            self.small(kept, 7)
            self.assertIs(kept.torn(), False)
            self.small(kept, 1)
            self.assertIs(kept.torn(), torn)
            self.assertEqual(kept.outside("h"), [5, 1, 5, 2, value])

    def test_a_deed_sends_out_only_what_it_told(self):
        kept = self.told()
        kept.seen["h"][0] = 9
        kept.ask("step", "h")
        kept.ask("step", "h")
        self.small(kept, 8)
        self.assertEqual((kept.outside("h"), kept.torn()), ([9, 1, 5, 2, 5], False))


class Own(Base):
    def test_lists_changed_by_the_asker(self):
        for over, deeds in runs(160, 8, 12):
            kept, twin = Kept(over), Kept(over)
            for deed in deeds:
                for each in [kept, twin]:
                    each.ask(*deed)
                kept.pack()
                twin.pack()
                while twin.step():
                    self.spoil(kept, over)
                    self.assertIs(kept.step(), True)
                    self.assertEqual(self.all_of(kept), self.all_of(twin))
            self.spoil(kept, over)
            kept.stop()
            self.assertEqual(self.all_of(kept), self.all_of(twin))

    def spoil(self, kept, over):
        for told in [kept.journal(), kept.code()] + [kept.outside(hand[0]) for hand in over.first[2]]:
            told.append(7)
            told[0] = 9
            told.clear()

    def test_what_was_told_stays_when_it_goes_on(self):
        kept = self.asked(TALES, [("step", "h")] * 7)
        kept.pack()
        before = self.all_of(kept)
        copies = (list(before[0]), {h: list(each) for h, each in before[1].items()}, before[2], list(before[3]))
        while kept.step():
            pass
        self.assertEqual(before, copies)

    def test_two_of_one_over(self):
        one, other = Kept(TRIO), Kept(TRIO)
        for deed in DEEDS:
            one.ask(*deed)
        self.small(one, 4 * len(DEEDS))
        self.as_told(other, TRIO, 0, [], [])

    def test_an_over_made_alike(self):
        over = Over(FIRST, SECOND, {}, {})
        kept = self.asked(over, DEEDS)
        self.small(kept, 4 * len(DEEDS))
        self.as_told(kept, TRIO, 0, DEEDS, [])
        self.assertEqual([kept.outside(h) for h in HANDS], [made(TRIO, DEEDS).told(h) for h in HANDS])


class Chance(Base):
    def test_as_told_once_more(self):
        """Deeds asked, small steps, packings and stops of chance, against the same deeds without stops."""
        source = random.Random(161)
        stops = {}
        for over, deeds in runs(162, 40, 40):
            kept, model = Kept(over), KeptModel(over)
            left = list(deeds)
            while left:
                word = source.choice(["ask"] * 8 + ["step"] * 30 + ["pack", "stop"])
                if word == "ask":
                    deed = left.pop()
                    kept.ask(*deed)
                    model.asked.append(deed)
                elif word == "pack":
                    kept.pack()
                    model.asked.append(None)
                elif word == "stop":
                    at = (bool(model.asked and model.asked[0]), min(model.at, 4))
                    stops[at] = stops.get(at, 0) + 1
                    kept.stop()
                    model.stop()
                else:
                    for _ in range(source.choice([1, 1, 2, 5, 30])):
                        self.assertIs(kept.step(), model.step())
                self.as_told(kept, over, model.start, model.whole, self.partial(kept, model))
                self.assertEqual(kept.journal(), model.journal())
        for at in [(True, 0), (True, 1), (True, 2), (True, 3), (False, 0), (False, 4)]:
            self.assertGreater(stops.get(at, 0), 5)

    def partial(self, kept, model):
        return kept.journal()[len(model.begin()) + 3 * (len(model.whole) - model.start):]

    def test_a_stop_at_every_small_step(self):
        """Of each run of deeds and packings: what is left is that of the deeds whole in the journal."""
        for over, deeds in runs(163, 12, 6):
            things = deeds[:3] + [None] + deeds[3:]
            steps = 0
            ended = False
            while not ended:
                kept, model = Kept(over), KeptModel(over)
                for thing in things:
                    if thing:
                        kept.ask(*thing)
                    else:
                        kept.pack()
                    model.asked.append(thing)
                for _ in range(steps):
                    self.assertIs(kept.step(), model.step())
                ended = not model.asked
                kept.stop()
                model.stop()
                self.as_told(kept, over, model.start, model.whole, [])
                self.assertIn(len(model.whole), [len(deeds)] if ended else range(len(deeds) + 1))
                steps += 1
