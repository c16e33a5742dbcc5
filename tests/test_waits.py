"""Who waits, and on whom [2], [13], [24], [32], [33]."""

import itertools
import random

from swapstride.mixed import Mixed, same
from swapstride.overs import Over
from swapstride.reader import read
from swapstride.waits import chain, is_stuck, waits
from tests.test_mixed import Checks, all_of, do, runs, trio, twin_of


def over_of(first, second=None):
    return Over(read(first), read(first if second is None else second), {}, {})


def bound(links, ends=()):
    """A house in which each hand waits for a letter from another; those of ends have ended.

    The second make has no take of the mark, so that none can be changed over.
    """
    hands = sorted(set(links) | set(links.values()) | set(ends))
    rows = [f"channel {h} {links[h]} {h} num" for h in sorted(links)]
    text = {"first": list(rows), "second": list(rows)}
    for h in hands:
        take = [f"take k {h} n", "go 0"] if h in links else ["end"]
        text["first"] += [f"hand {h}", "box n num"] + take
        text["second"] += [f"hand {h}", "box n num", "end"]
    return Mixed(over_of("\n".join(text["first"]), "\n".join(text["second"])))


class Base(Checks):
    def waits(self, house, **told):
        before = all_of(house)
        twin = twin_of(house)
        for h, each in told.items():
            for _ in range(2):
                found = waits(house, h)
                self.assertIs(type(found), tuple)
                self.assertEqual(found, each)
            # A step does a thing just where it goes.
            self.assertIs(twin_of(house).step(h), each == ("goes",))
        self.assertEqual(all_of(house), before)
        self.assertIs(same(house, twin), True)

    def stuck(self, house, told):
        before = all_of(house)
        self.assertIs(is_stuck(house), told)
        self.assertEqual(all_of(house), before)
        hands = [hand[0] for hand in house.over.first[2]]
        able = [each for each in itertools.product(["step", "over"], hands) if twin_of(house).deed(*each)]
        self.assertIs(told, able == [])
        if not told:
            for h in hands:
                self.assertIsNone(chain(house, h))

    def chains(self, house, **told):
        self.stuck(house, True)
        before = all_of(house)
        for h, (word, hands) in told.items():
            for _ in range(2):
                found = chain(house, h)
                self.assertEqual([type(found), type(found[1])], [tuple, list])
                self.assertEqual(found, (word, hands.split()))
                found[1].append("a")
                found[1].clear()
        self.assertEqual(all_of(house), before)


class Waits(Base):
    def test_a_take_without_letters(self):
        house = trio()
        self.waits(house, feed=("goes",), one=("letter", "d", "feed"), two=("letter", "c", "one"))
        self.done(house, "feed*5 one*5 two")
        self.waits(house, one=("letter", "d", "feed"), two=("goes",))
        self.done(house, "two*3")
        self.waits(house, two=("letter", "c", "one"))

    def test_a_take_without_letters_of_a_changed_hand(self):
        house = trio()
        self.done(house, "one! two!")
        self.waits(house, one=("letter", "d", "feed"), two=("letter", "c", "one"))

    def test_by_the_channel_of_the_take(self):
        # c has a letter, e none.
        house = trio()
        self.done(house, "feed*5 one*3 two")
        self.letters(house, c=[], e=[])
        self.waits(house, two=("letter", "e", "one"))
        self.done(house, "feed*5 one*5 two*2")
        self.waits(house, two=("goes",))

    def test_from_itself(self):
        house = Mixed(over_of("channel c h h num\nhand h\nbox n num\ntake k c n\nend"))
        self.waits(house, h=("letter", "c", "h"))
        self.done(house, "h!")
        self.waits(house, h=("letter", "c", "h"))

    def test_letters_of_the_first_make(self):
        house = trio()
        self.done(house, "feed*5 one*4")
        self.waits(house, two=("goes",))
        self.done(house, "two!")
        self.waits(house, two=("goes",))

    def test_letters_of_the_second_make(self):
        house = trio()
        self.done(house, "feed*5 one! one*4")
        self.letters(house, e=[(2, 2)])
        self.waits(house, two=("change", "c", "one"))
        self.done(house, "two!")
        self.waits(house, two=("goes",))

    def test_letters_of_both_makes(self):
        house = trio()
        self.done(house, "feed*10 one*5 one! one*5")
        self.waits(house, two=("goes",))
        self.done(house, "two")
        self.waits(house, two=("goes",))
        self.done(house, "two*3")
        self.waits(house, two=("change", "c", "one"))
        self.done(house, "two!")
        self.waits(house, two=("goes",))

    def test_the_second_makes_letter_in_another_channel(self):
        house = trio()
        self.done(house, "feed*5 one! one*3")
        self.letters(house, c=[], e=[(2, 2)])
        self.waits(house, two=("letter", "c", "one"))

    def test_change_by_the_channel_of_the_take(self):
        text = "channel g h a num\nchannel b a h num\nchannel c a h num\n"
        hand = "hand h\nbox n num\nsend g 0\ntake x b n\ntake y c n\nend"
        first = text + "hand a\nbox n num\nsend b 1\ntake k g n\nend\n" + hand
        second = text + "hand a\nbox n num\ntake k g n\nsend c 2\nend\n" + hand
        house = Mixed(over_of(first, second))
        self.done(house, "a h a! a*2")
        self.waits(house, h=("goes",), a=("ended",))
        self.done(house, "h")
        self.waits(house, h=("change", "c", "a"))
        self.done(house, "h!")
        self.waits(house, h=("goes",))

    def test_at_an_end(self):
        first = "channel c h h num\nhand h\nbox n num\nsend c 1\ntake k c n\nend"
        house = Mixed(over_of(first))
        self.done(house, "h")
        twin = twin_of(house)
        self.done(house, "h")
        self.waits(house, h=("ended",))
        self.done(twin, "h! h")
        self.waits(twin, h=("ended",))

    def test_at_an_end_in_one_make_alone(self):
        text = "channel c h h num\nhand h\nbox n num\nsend c 1\ntake k c n\n"
        house = Mixed(over_of(text + "end", text + "go 0"))
        self.done(house, "h h")
        self.waits(house, h=("ended",))
        house = Mixed(over_of(text + "end", text + "go 0"))
        self.done(house, "h h! h")
        self.waits(house, h=("goes",))

    def test_every_other_word_of_rows(self):
        rows = ("set n 1\nsend c 2\ntell n\ngo 4\nif 0 4\nif 1 6\ntake k c n\n"
                "set n 1\nsend c 2\ntell n\ngo 11\nif 0 4\nif 1 13\nend")
        house = Mixed(over_of("channel c h h num\nhand h\nbox n num\n" + rows))
        for _ in range(6):
            self.waits(house, h=("goes",))
            self.done(house, "h")
        self.waits(house, h=("goes",))
        self.done(house, "h!")
        for _ in range(7):
            self.waits(house, h=("goes",))
            self.done(house, "h")
        self.waits(house, h=("ended",))

    def test_names_like_the_words_of_rows(self):
        house = Mixed(over_of("channel take set set num\nhand set\nbox end num\nset end 1\ntake send take end\n"
                              "tell end\nend"))
        self.waits(house, set=("goes",))
        self.done(house, "set")
        self.waits(house, set=("letter", "take", "set"))
        self.done(house, "set!")
        self.waits(house, set=("letter", "take", "set"))
        self.chains(house, set=("ring", "set"))

    def test_behind_going_back(self):
        house = trio()
        self.done(house, "feed*5 one! two! one*4")
        self.waits(house, two=("goes",))
        self.done(house, "two?")
        self.waits(house, two=("change", "c", "one"))

    def test_by_the_names_of_its_arguments(self):
        house = trio()
        self.assertEqual(waits(mixed=house, h="two"), ("letter", "c", "one"))
        self.assertIs(is_stuck(mixed=house), False)
        self.assertIsNone(chain(mixed=house, h="two"))
        self.assertEqual(chain(mixed=bound({"a": "a"}), h="a"), ("ring", ["a"]))


class Stuck(Base):
    def test_a_hand_can_step(self):
        self.stuck(trio(), False)
        self.stuck(Mixed(over_of("hand a\nend\nhand b\ngo 0")), False)

    def test_only_a_hand_can_be_changed_over(self):
        text = "channel c a b num\nhand a\nend\nhand b\nbox n num\ntake k c n\nend"
        house = Mixed(over_of(text))
        self.stuck(house, False)
        self.done(house, "b!")
        self.stuck(house, True)

    def test_only_going_back_does_a_thing(self):
        text = "channel c a b num\nhand a\nend\nhand b\nbox n num\ntake k c n\nend"
        house = Mixed(over_of(text))
        self.done(house, "b!")
        self.stuck(house, True)
        self.assertIs(twin_of(house).back("b"), True)
        self.done(house, "b?")
        self.stuck(house, False)

    def test_a_hand_at_a_take_without_a_way(self):
        first = "channel c a b num\nhand a\nend\nhand b\nbox n num\ntake k c n\nend"
        self.stuck(Mixed(over_of(first, first.replace("take k", "take l"))), True)

    def test_all_ended(self):
        self.stuck(Mixed(over_of("hand a\nend\nhand b\nend")), True)
        self.stuck(Mixed(over_of("hand a\nend")), True)
        house = Mixed(over_of("hand a\ntell 1\nend\nhand b\nend"))
        self.stuck(house, False)
        self.done(house, "a")
        self.stuck(house, True)

    def test_without_hands(self):
        self.assertIs(is_stuck(Mixed(Over(((), (), ()), ((), (), ()), {}, {}))), True)

    def test_one_that_waits_for_change(self):
        house = trio()
        self.done(house, "feed*5 one! one*5 two!")
        self.stuck(house, False)

    def test_each_hand_alone_may_go(self):
        for h in "abc":
            text = "\n".join(f"hand {g}\n" + ("go 0" if g == h else "end") for g in "abc")
            self.stuck(Mixed(over_of(text)), False)


class Chain(Base):
    def test_of_one_that_has_ended(self):
        self.chains(Mixed(over_of("hand a\nend")), a=("ended", "a"))
        self.chains(bound({"b": "a"}, ["a", "c"]), a=("ended", "a"), c=("ended", "c"))

    def test_to_an_ended_one(self):
        self.chains(bound({"b": "a"}), a=("ended", "a"), b=("ended", "b a"))

    def test_to_an_ended_one_over_several(self):
        self.chains(bound({"a": "c", "c": "b", "b": "d"}), a=("ended", "a c b d"), c=("ended", "c b d"),
                    b=("ended", "b d"), d=("ended", "d"))

    def test_two_that_wait_for_one(self):
        self.chains(bound({"a": "c", "b": "c"}), a=("ended", "a c"), b=("ended", "b c"), c=("ended", "c"))

    def test_a_ring_of_one(self):
        self.chains(bound({"a": "a"}), a=("ring", "a"))
        self.chains(bound({"a": "a", "b": "a", "c": "b"}), a=("ring", "a"), b=("ring", "a"), c=("ring", "a"))

    def test_a_ring_of_two(self):
        self.chains(bound({"a": "b", "b": "a"}), a=("ring", "a b"), b=("ring", "b a"))

    def test_a_ring_of_two_from_outside(self):
        self.chains(bound({"a": "c", "c": "b", "b": "c", "d": "a"}), a=("ring", "c b"), d=("ring", "c b"),
                    b=("ring", "b c"), c=("ring", "c b"))

    def test_rings_of_three_and_four(self):
        self.chains(bound({"a": "c", "b": "a", "c": "b", "d": "b"}), a=("ring", "a c b"), b=("ring", "b a c"),
                    c=("ring", "c b a"), d=("ring", "b a c"))
        self.chains(bound({"a": "c", "b": "a", "c": "d", "d": "b"}), a=("ring", "a c d b"), d=("ring", "d b a c"))

    def test_two_rings(self):
        self.chains(bound({"a": "b", "b": "a", "c": "d", "d": "c"}), a=("ring", "a b"), c=("ring", "c d"),
                    d=("ring", "d c"))

    def change(self):
        """a is changed and sent a letter, b waits to be changed at a take that lacks a way, c waits for b."""
        text = "channel g b a num\nchannel x a b num\nchannel y b c num\nchannel z c d num\n"
        hand = "hand b\nbox n num\nsend g 0\ntake {} x n\nsend y 1\nend\n"
        rest = "hand c\nbox n num\ntake {} y n\nsend z 1\nend\nhand d\nbox n num\ntake {} z n\nend"
        sender = "hand a\nbox n num\ntake k g n\nsend x 5\nend\n"
        house = Mixed(over_of(text + sender + (hand + rest).format("m", "m", "m"),
                              text + sender + (hand + rest).format("o", "o", "o")))
        self.done(house, "b a! a*2")
        return house

    def test_to_one_that_waits_for_a_change(self):
        house = self.change()
        self.waits(house, a=("ended",), b=("change", "x", "a"), c=("letter", "y", "b"), d=("letter", "z", "c"))
        self.chains(house, a=("ended", "a"), b=("change", "b"), c=("change", "c b"), d=("change", "d c b"))

    def test_of_changed_and_elder_hands(self):
        text = ("channel x a b num\nchannel y b a num\nhand a\nbox n num\ntake k y n\nend\nhand b\nbox n num\n"
                "take {} x n\nend")
        house = Mixed(over_of(text.format("k"), text.format("o")))
        self.stuck(house, False)
        self.assertEqual(do(house, "a! b!"), [True, False])
        self.chains(house, a=("ring", "a b"), b=("ring", "b a"))
        house = Mixed(over_of(text.format("k")))
        self.done(house, "b!")
        self.stuck(house, False)
        self.done(house, "a!")
        self.chains(house, a=("ring", "a b"), b=("ring", "b a"))

    def test_none_where_it_is_not_stuck(self):
        # Two wait for one another, but a third may go.
        text = ("channel x a b num\nchannel y b a num\nhand a\nbox n num\ntake k y n\nend\nhand b\nbox n num\n"
                "take k x n\nend\nhand c\n")
        for last in ["go 0", "tell 1\nend"]:
            house = Mixed(over_of(text + last, text.replace("take k", "take o") + last))
            self.stuck(house, False)
        self.done(house, "c")
        self.chains(house, a=("ring", "a b"), c=("ended", "c"))

    def test_by_the_channel_of_the_take(self):
        """One that has letters from one hand may wait for another's."""
        text = "channel x a c num\nchannel y b c num\nhand a\nsend x 1\nend\nhand b\nend\nhand c\nbox n num\n"
        for takes, deeds in [("take k y n\ntake l x n\nend", "a"), ("take k x n\ntake l y n\nend", "a c")]:
            house = Mixed(over_of(text + takes, text + takes.replace(" k ", " o ").replace(" l ", " q ")))
            self.done(house, deeds)
            self.chains(house, c=("ended", "c b"))


class Chance(Base):
    def wait(self, house, h):
        """How a hand waits, told once more."""
        make = [house.over.first, house.over.second][house.make_of(h) - 1]
        row = [rows for name, _, rows in make[2] if name == h][0][house.stand(h)[0]]
        if row == ("end",):
            return ("ended",)
        if row[0] == "take":
            giver = [one for c, one, _, _ in make[1] if c == row[2]][0]
            if not house.letters(row[2]):
                return ("letter", row[2], giver)
            if house.make_of(h) == 1 and house.letters(row[2])[0][0] == 2:
                return ("change", row[2], giver)
        return ("goes",)

    def chain(self, house, h):
        """The chain told once more, by walking on for longer than any chain is."""
        walk = [h]
        while len(walk) < 12 and self.wait(house, walk[-1])[0] == "letter":
            walk.append(self.wait(house, walk[-1])[2])
        if len(walk) < 12:
            return (self.wait(house, walk[-1])[0], walk)
        again = min(k for k, each in enumerate(walk) if each in walk[:k])
        return ("ring", walk[walk.index(walk[again]):again])

    def test_of_houses(self):
        seen = {}
        for over, deeds in runs(170, 150, 40):
            house = Mixed(over)
            for word, h in deeds:
                house.deed(word, h)
                for hand in over.first[2]:
                    told = self.wait(house, hand[0])
                    self.waits(house, **{hand[0]: told})
                    key = (told[0], house.make_of(hand[0]))
                    seen[key] = seen.get(key, 0) + 1
        self.assertEqual(sorted(seen), [("change", 1), ("ended", 1), ("ended", 2), ("goes", 1), ("goes", 2),
                                        ("letter", 1), ("letter", 2)])
        self.assertGreater(min(seen.values()), 20)

    def test_of_stuck_houses(self):
        source = random.Random(171)
        seen = {}
        for over, deeds in runs(172, 200, 0):
            house = Mixed(over)
            hands = [hand[0] for hand in over.first[2]]
            for k in range(150):
                if k % 25 == 0:
                    self.stuck(house, not any(twin_of(house).deed(*each)
                                              for each in itertools.product(["step", "over"], hands)))
                house.deed(source.choice(["step"] * 12 + ["over"]), source.choice(hands))
            if is_stuck(house):
                for h in hands:
                    told = self.chain(house, h)
                    self.assertEqual(chain(house, h), told)
                    key = (told[0], len(told[1]))
                    seen[key] = seen.get(key, 0) + 1
        for key in [("ended", 1), ("ended", 2), ("ring", 1), ("ring", 2)]:
            self.assertGreater(seen.get(key, 0), 1, key)

    def test_of_stuck_houses_of_each_form(self):
        """Each of four hands has ended or waits for any of them."""
        for links in itertools.product([None, "a", "b", "c", "d"], repeat=4):
            given = {h: g for h, g in zip("abcd", links) if g}
            house = bound(given, [h for h, g in zip("abcd", links) if not g])
            for h in "abcd":
                self.assertEqual(chain(house, h), self.chain(house, h))

    def test_where_it_is_stuck_only_going_back_does_a_thing(self):
        seen = 0
        for over, deeds in runs(173, 200, 120):
            house = Mixed(over)
            for word, h in deeds:
                house.deed(word if word != "back" else "step", h)
            if is_stuck(house):
                seen += 1
                before = all_of(house)
                for word, h in deeds:
                    if word != "back":
                        self.assertIs(house.deed(word, h), False)
                self.assertEqual(all_of(house), before)
        self.assertGreater(seen, 20)
