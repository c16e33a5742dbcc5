"""What a hand took, by deeds [2], [3], [15], [18], [24], [25], [35], [37]."""

import copy

from swapstride.bricks import term_of
from swapstride.histories import history
from swapstride.lone import Lone
from swapstride.mixed import Mixed
from swapstride.overs import Over, brought
from swapstride.parted import counting, parted, played, put_right
from swapstride.reader import read
from swapstride.values import is_of
from tests.chance import MixedModel
from tests.test_mixed import FIRST, SECOND, Checks, new, old, runs
from tests.test_overs import fields_of
from tests.test_parted import TRIO, deeds_of


class Base(Checks):
    def tells(self, text, h, elder, changed, over=TRIO):
        """The history of a hand by deeds of a text."""
        self.assertEqual(self.asked(over, deeds_of(text), h), (elder, changed))

    def asked(self, over, deeds, h):
        """A history of its form, the same when asked again, what was told having been changed by the asker."""
        before, fields = list(deeds), fields_of(over)
        told = history(over, deeds, h)
        kept = copy.deepcopy(told)
        self.assertEqual([type(told), len(told)], [tuple, 2])
        for lists in told:
            self.assertIs(type(lists), dict)
            self.assertEqual(list(lists), [c for c, _, to, _ in over.first[1] if to == h])
            for each in lists.values():
                self.assertIs(type(each), list)
                each.append(5)
            lists.clear()
        self.assertEqual(history(over=over, deeds=deeds, h=h), kept)
        self.assertEqual((deeds, fields_of(over)), (before, fields))
        return kept


class History(Base):
    def test_no_deeds(self):
        self.tells("", "two", {"c": [], "e": []}, {"c": [], "e": []})
        self.tells("", "feed", {"s": []}, {"s": []})

    def test_channels_without_letters(self):
        self.tells("feed*5 one*4 two", "two", {"c": [("pt", (1, 1))], "e": []}, {"c": [], "e": []})
        self.tells("feed*5 one*4 two!", "two", {"c": [], "e": []}, {"c": [], "e": []})

    def test_a_hand_without_channels(self):
        make = read("channel c g g num\nhand h\ntell 1\nend\nhand g\nbox n num\ntake k c n\nend")
        self.tells("h g g!", "h", {}, {}, Over(make, make, {}, {}))

    def test_letters_not_taken(self):
        self.tells("feed*15 one*5", "one", {"d": [1]}, {"d": []})
        self.tells("feed*15 one*4", "two", {"c": [], "e": []}, {"c": [], "e": []})

    def test_as_elder(self):
        self.tells("feed*15 one*15 two*8", "two", {"c": [("pt", (1, 1)), ("pt", (3, 2))], "e": [1, 3]},
                   {"c": [], "e": []})
        self.tells("feed*15 one*15 two*8", "one", {"d": [1, 2, 3]}, {"d": []})
        self.tells("feed*15 one*15 two*8", "feed", {"s": [1, 1, 1]}, {"s": []})

    def test_as_changed_letters_of_the_first_make_turned(self):
        self.tells("feed*10 one*10 two! two*4", "two", {"c": [], "e": []},
                   {"c": [("pt", (1, 0, 1)), ("pt", (2, 0, 3))], "e": [1]})

    def test_as_changed_letters_of_the_second_make(self):
        self.tells("feed*5 one! one*4 two! two*3", "two", {"c": [], "e": []}, {"c": [("pt", (1, 9, 2))], "e": [2]})

    def test_as_changed_letters_of_both_makes(self):
        text = "feed*10 one*5 one! one*5 two!"
        house = played(TRIO, deeds_of(text))
        self.letters(house, c=[old(1, 1), new(2, 9, 5)], e=[(1, 1), (2, 5)])
        self.tells(text + " two*5", "two", {"c": [], "e": []},
                   {"c": [("pt", (1, 0, 1)), ("pt", (2, 9, 5))], "e": [1, 5]})

    def test_as_elder_and_as_changed(self):
        self.tells("feed*15 one*10 one! one*5 two*5 two! two two*2", "two",
                   {"c": [("pt", (1, 1)), ("pt", (3, 2))], "e": [1]}, {"c": [("pt", (3, 9, 9))], "e": [3, 9]})
        self.tells("feed*15 one*6 one! one", "one", {"d": [1, 2]}, {"d": []})
        self.tells("feed*15 one*10 one! one", "one", {"d": [1, 2]}, {"d": [3]})

    def test_letters_turned_by_told_ways(self):
        told = {"pt": ("pt", term_of("(rec pt (+ y 100) 50 (* x 3))"))}
        over = Over(FIRST, SECOND, told, {})
        self.tells("feed*15 one*10 two*4 one! one*5 two! two*4", "two", {"c": [("pt", (1, 1))], "e": [1]},
                   {"c": [("pt", (102, 50, 9)), ("pt", (3, 9, 9))], "e": [3]}, over)

    def test_letters_to_itself(self):
        self.tells("feed*6 feed! feed*6", "feed", {"s": [1]}, {"s": [1, 2]})

    def test_a_letter_of_nought(self):
        make = read("channel c a b num\nhand a\nsend c 0\nsend c 0\nend\n"
                    "hand b\nbox n num\ntake k c n\ntake l c n\nend")
        self.tells("a a b b! b", "b", {"c": [0]}, {"c": [0]}, Over(make, make, {}, {}))

    def test_what_was_given_back_is_not_among_them(self):
        self.tells("feed*10 one*10 two! two*4 two?", "two", {"c": [], "e": []}, {"c": [], "e": []})
        self.tells("feed*10 one*10 two! two*4 two? two", "two", {"c": [("pt", (1, 1))], "e": []}, {"c": [], "e": []})
        self.tells("feed*10 one*10 two two! two*2 two? two*3 two! two two?", "two", {"c": [("pt", (1, 1))], "e": [1]},
                   {"c": [], "e": []})

    def test_given_back_and_taken_again_once(self):
        self.tells("feed*10 one*10 two! two*4 two? two! two*4", "two", {"c": [], "e": []},
                   {"c": [("pt", (1, 0, 1)), ("pt", (2, 0, 3))], "e": [1]})
        self.tells("feed*10 one*10 two two! two*2 two? two! two*2", "two", {"c": [("pt", (1, 1))], "e": []},
                   {"c": [("pt", (2, 0, 3))], "e": [1]})

    def test_going_back_that_is_not_done(self):
        self.tells("feed*5 one! one*3 one?", "one", {"d": []}, {"d": [1]})

    def test_going_back_of_another_hand(self):
        text = "feed*10 one*10 one! two! two*4 one?"
        self.tells(text, "two", {"c": [], "e": []}, {"c": [("pt", (1, 0, 1)), ("pt", (2, 0, 3))], "e": [1]})
        self.tells("feed*15 one*10 one! one two*4 one?", "one", {"d": [1, 2]}, {"d": []})

    def test_steps_that_wait_take_nothing(self):
        self.tells("two*3 feed*5 one*4 two two two two two", "two", {"c": [("pt", (1, 1))], "e": [1]},
                   {"c": [], "e": []})
        self.tells("feed*5 one! one*4 two*3", "two", {"c": [], "e": []}, {"c": [], "e": []})


class Chance(Base):
    def test_as_told_once_more(self):
        """The second telling keeps what each hand took."""
        seen = {1: 0, 2: 0}
        for over, deeds in runs(231, 150, 70):
            model = MixedModel(over)
            for word, h in deeds:
                model.deed(word, h)
            for h in model.side:
                told = self.asked(over, deeds, h)
                for side, lists in zip([1, 2], told):
                    for c, each in lists.items():
                        took = [value for number, name, value in model.took[h] if (number, name) == (side, c)]
                        self.assertEqual(each, took)
                        seen[side] += len(took)
        self.assertGreater(min(seen.values()), 100)

    def test_each_letter_has_its_kind(self):
        for over, deeds in runs(232, 60, 60):
            for hand in over.first[2]:
                for make, lists in zip([over.first, over.second], history(over, deeds, hand[0])):
                    kinds = {c: kind for c, _, _, kind in make[1]}
                    for c, each in lists.items():
                        self.assertTrue(all(is_of(make[0], kinds[c], value) for value in each))

    def test_by_what_counts_and_by_deeds_put_right(self):
        for over, deeds in runs(233, 80, 60):
            for hand in over.first[2]:
                told = history(over, deeds, hand[0])
                self.assertEqual(history(over, counting(over, deeds), hand[0]), told)
                self.assertEqual(history(over, put_right(over, deeds), hand[0]), told)

    def test_each_hand_does_what_lone_hands_do(self):
        """The first make's lone hand with the elder letters, then the second make's, brought over, with the rest."""
        seen = {1: 0, 2: 0, "sent": 0}
        for over, deeds in runs(234, 200, 80):
            house = played(over, deeds)
            for hand in over.first[2]:
                lones = self.lones(over, deeds, hand[0])
                self.assertEqual(len(lones), house.make_of(hand[0]))
                seen[len(lones)] += lones[-1].count() > 0
                self.assertEqual(house.stand(hand[0]), lones[-1].stand())
                self.assertEqual(house.told(hand[0]), [value for lone in lones for value in lone.told()])
                self.assertEqual(house.count(hand[0]), sum(lone.count() for lone in lones))
                self.assertEqual([c for lone in lones for c, each in lone.left().items() if each], [])
                seen["sent"] += self.sent(over, deeds, house, hand[0], lones)
        self.assertGreater(min(seen.values()), 60)

    def lones(self, over, deeds, h):
        """The lone hands that do what a hand did, as many rows each as it did."""
        elder, changed = history(over, deeds, h)
        first, overs, second = parted(over, deeds)
        lones = [self.run_lone(Lone(over.first, h, elder), first.count(h))]
        if h in overs:
            stand = brought(over, h, lones[0].stand())
            lones.append(self.run_lone(Lone(over.second, h, changed, stand), second.count(h)))
        return lones

    def run_lone(self, lone, many):
        for _ in range(many):
            self.assertIs(lone.step(), True)
        return lone

    def sent(self, over, deeds, house, h, lones):
        """How many letters the lone hands sent; those not taken are the last of them, the taken ones those ahead."""
        many = 0
        for c, _, to, _ in [channel for channel in over.first[1] if channel[1] == h]:
            told = [(k + 1, value) for k, lone in enumerate(lones) for value in lone.sent()[c]]
            left = house.letters(c)
            self.assertEqual(left, told[len(told) - len(left):])
            elder, changed = history(over, deeds, to)
            self.assertEqual(len(elder[c]) + len(changed[c]) + len(left), len(told))
            self.assertEqual([(1, value) for value in elder[c]], told[:len(elder[c])])
            many += len(told)
        return many

    def test_the_house_is_one_by_its_deeds_at_every_moment(self):
        """Deed by deed a history grows by what was taken, but at a going back."""
        grown = 0
        for over, deeds in runs(235, 25, 30):
            house = Mixed(over)
            for k, (word, h) in enumerate(deeds):
                before = history(over, deeds[:k], h)
                took = self.letter(house, h) if word == "step" else None
                done = house.deed(word, h)
                after = history(over, deeds[:k + 1], h)
                if word == "back" and done:
                    self.assertEqual((after[0], [c for c in after[1] if after[1][c]]), (before[0], []))
                else:
                    if done and took:
                        before[took[0] - 1][took[1]].append(took[2])
                        grown += 1
                    self.assertEqual(after, before)
        self.assertGreater(grown, 20)

    def letter(self, house, h):
        """The make of a hand, the channel and the letter that it would take, turned where it is so."""
        side = house.make_of(h)
        make = [house.over.first, house.over.second][side - 1]
        row = [rows for name, _, rows in make[2] if name == h][0][house.stand(h)[0]]
        if row[0] != "take" or not house.letters(row[2]):
            return None
        number, value = house.letters(row[2])[0]
        if number < side:
            kind = [kind for c, _, _, kind in house.over.first[1] if c == row[2]][0]
            value = MixedModel(house.over).turned(kind, value)
        return (side, row[2], value)
