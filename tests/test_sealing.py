"""Houses sealed, and brought over at once [2], [3], [14], [15], [23], [24], [26], [36]."""

import itertools
import random

from swapstride.bricks import term_of
from swapstride.mixed import Mixed
from swapstride.overs import Over, brought, letter_over
from swapstride.plain import Plain, plain_at
from swapstride.reader import read
from swapstride.sealing import sealed, whole_over
from tests.chance import MixedModel, right_over
from tests.test_mixed import FIRST, HANDS, SECOND, Checks, all_of, new, old, runs, trio, twin_of
from tests.test_plain import all_of as plain_all
from tests.test_plain import dicts_of, stirred

EMPTY = ((), (), ())

# A third make behind SECOND: a hand that counts what comes, and tells all that it has.
THIRD = read("""rec pt x num z num
channel s feed feed num
channel d feed one num
channel c one two pt
channel e one two num
hand feed
box t num
take f s t
send s (+ t 1)
go 0
hand one
box m num
box n num
take k d m
send c (rec pt m n)
go 0
hand two
box p pt
box many num
box q num
take l c p
set many (+ many 1)
tell (+ (+ (get p x) (get p z)) (* 1000 many))
go 0
take j e q
take i c p
take h e q
go 0""")


class Base(Checks):
    def told(self, plain, hands, letters):
        """All that a house of one make tells; hands as (stand, told, count)."""
        self.assertIs(type(plain), Plain)
        self.assertEqual(plain_all(plain), (hands, letters))

    def spoil(self, plain):
        """Change all that a house told."""
        for hand in plain.make[2]:
            plain.stand(hand[0])[1].clear()
            plain.told(hand[0]).append(5)
        for channel in plain.make[1]:
            plain.letters(channel[0]).append(7)


class Sealed(Base):
    def over_changed(self):
        """A house in which all are changed, with letters of both makes, and with tellings of both."""
        house = trio()
        self.done(house, "feed*15 one*5 two*4 one*5 one! one*5 feed feed! two!")
        self.letters(house, s=[(1, 1)], d=[], c=[old(3, 2), new(3, 9, 9)], e=[(1, 3), (2, 9)])
        return house

    def test_none_while_one_is_elder(self):
        self.assertIsNone(sealed(trio()))
        for many in range(3):
            for hands in itertools.combinations(HANDS, many):
                house = trio()
                self.done(house, "feed " + " ".join(h + "!" for h in hands))
                before = all_of(house)
                self.assertIsNone(sealed(house))
                self.assertEqual(all_of(house), before)

    def test_where_all_are_changed(self):
        house = self.over_changed()
        self.told(sealed(house), {
            "feed": ((0, {"n": 3, "t": 1}), [], 16),
            "one": ((0, {"n": 9, "m": 3}), [], 15),
            "two": ((0, {"q": 1, "p": ("pt", (1, 0, 1)), "last": ("pt", (0, 0, 0))}), [2], 4)},
            {"s": [1], "d": [], "c": [("pt", (2, 0, 3)), ("pt", (3, 9, 9))], "e": [3, 9]})
        self.assertIs(sealed(house).make, SECOND)

    def test_what_was_told_and_counted_over_both_makes(self):
        house = self.over_changed()
        self.done(house, "two*6")
        self.assertEqual(house.told("two"), [2, 30])
        plain = sealed(house)
        self.assertEqual((plain.told("two"), plain.count("two")), ([2, 30], 10))
        self.assertEqual((plain.letters("c"), plain.letters("e")), ([], []))

    def test_letters_turned_by_told_ways(self):
        told = {"pt": ("pt", term_of("(rec pt (+ y 100) 50 (* x 3))"))}
        house = Mixed(Over(FIRST, SECOND, told, {}))
        self.done(house, "feed*10 one*5 one! one*5 two! feed feed!")
        self.letters(house, c=[old(1, 1), new(2, 9, 5)])
        self.assertEqual(sealed(house).letters("c"), [("pt", (101, 50, 3)), ("pt", (2, 9, 5))])

    def test_as_soon_as_the_last_is_changed(self):
        for order in itertools.permutations(HANDS):
            house = trio()
            self.done(house, "feed")
            for h in order:
                self.assertIsNone(sealed(house))
                self.done(house, h + "!")
            self.assertEqual(sealed(house).letters("s"), [1])
            self.done(house, order[0] + "?")
            self.assertIsNone(sealed(house))

    def test_goes_on_as_a_house_of_the_second_make(self):
        plain = sealed(self.over_changed())
        self.assertEqual(plain.weave(["two"] * 8), 7)
        self.assertEqual(plain.told("two"), [2, 30])
        self.assertEqual(plain.weave(["feed"] * 5 + ["one"] * 5 + ["two"] * 3), 13)
        # The letter to itself was 1 with the first make's 3 in the box.
        self.assertEqual(plain.stand("one"), (0, {"n": 35, "m": 13}))
        self.assertEqual(plain.stand("two"), (3, {"q": 35, "p": ("pt", (13, 9, 35)), "last": ("pt", (13, 9, 35))}))
        self.assertEqual((plain.count("two"), plain.still()), (14, False))

    def test_goes_on_as_the_house_itself(self):
        seen = 0
        source = random.Random(130)
        for over, deeds in runs(131, 150):
            house = Mixed(over)
            for word, h in deeds:
                house.deed(word, h)
            plain = sealed(house)
            if plain is not None:
                for h in stirred(source, over.first, 30):
                    seen += 1
                    self.assertIs(plain.step(h), house.step(h))
                    self.assertEqual(plain_all(plain), plain_all(sealed(house)))
        self.assertGreater(seen, 500)

    def test_the_house_stays(self):
        house = self.over_changed()
        before, twin = all_of(house), twin_of(house)
        plain = sealed(house)
        self.assertEqual(all_of(house), before)
        self.spoil(plain)
        plain.weave(["feed", "two", "one"] * 10)
        self.spoil(plain)
        self.assertEqual(all_of(house), before)
        self.undone(house, "one")
        for text in ["two*5", "feed*4", "one*5", "two?"]:
            self.assertEqual(all_of(house), all_of(twin))
            self.done(house, text)
            self.done(twin, text)

    def test_it_stays_when_the_house_goes_on(self):
        house = self.over_changed()
        plain = sealed(house)
        before = plain_all(plain)
        self.done(house, "two*6 feed*5 one*5")
        self.assertEqual(plain_all(plain), before)
        self.assertEqual(plain.weave(["two"] * 6), 6)
        self.assertEqual(plain.told("two"), [2, 30])

    def test_asked_again(self):
        house = self.over_changed()
        one = sealed(house)
        before = plain_all(one)
        self.spoil(one)
        one.weave(["two", "feed"] * 5)
        self.assertEqual(plain_all(sealed(mixed=house)), before)

    def test_makes_without_hands(self):
        kinds = (("p", "rec", ()),)
        plain = sealed(Mixed(Over(EMPTY, (kinds, (), ()), {}, {})))
        self.told(plain, {}, {})
        self.assertEqual((plain.make, plain.still()), ((kinds, (), ()), True))

    def test_one_hand(self):
        text = "channel c h h num\nhand h\nbox n num\nsend c 4\ntake m c n\ntell {}\nend"
        house = Mixed(Over(read(text.format("n")), read(text.format("(* n 2)")), {}, {}))
        self.assertIsNone(sealed(house))
        self.done(house, "h h!")
        self.told(sealed(house), {"h": ((1, {"n": 0}), [], 1)}, {"c": [4]})
        self.done(house, "h h")
        self.told(sealed(house), {"h": ((3, {"n": 4}), [8], 3)}, {"c": []})

    def test_as_told_once_more(self):
        """All changed: the first make by its rows alone, brought over at once, then the second make by its rows."""
        seen, moved = 0, 0
        for over, deeds in runs(132, 350, 80):
            house, model = Mixed(over), MixedModel(over)
            for word, h in deeds:
                house.deed(word, h)
                model.deed(word, h)
            if 1 in model.side.values():
                self.assertIsNone(sealed(house))
                continue
            plain = Plain(over.first)
            rows = [[each[1] for each in model.done if each[0] == "step" and each[2] == side] for side in (1, 2)]
            self.assertEqual(plain.weave(rows[0]), len(rows[0]))
            whole = whole_over(over, plain)
            self.assertEqual(whole.weave(rows[1]), len(rows[1]))
            self.assertEqual(plain_all(sealed(house)), plain_all(whole))
            seen += 1
            moved += len(rows[1])
        self.assertGreater(seen, 40)
        self.assertGreater(moved, 200)


class Whole(Base):
    def plain_at_takes(self):
        plain = Plain(FIRST)
        plain.weave(["feed"] * 11 + ["one"] * 10 + ["two"] * 5)
        return plain

    def test_none_where_one_stand_can_not_be(self):
        over = Over(FIRST, SECOND, {}, {})
        self.assertIsNone(whole_over(over, Plain(FIRST)))
        for weaving in [["feed"] * 2, ["feed"] * 6 + ["one"], ["feed"] * 6 + ["one"] * 5 + ["two"] * 2, ["feed"] * 5]:
            plain = Plain(FIRST)
            self.assertEqual(plain.weave(weaving), len(weaving))
            before = plain_all(plain)
            self.assertIsNone(whole_over(over, plain))
            self.assertEqual(plain_all(plain), before)

    def test_none_where_a_place_lacks_a_way(self):
        two = ("two", SECOND[2][2][1], (("take", "j", "e", "q"), ("go", 0)))
        over = Over(FIRST, (SECOND[0], SECOND[1], SECOND[2][:2] + (two,)), {}, {})
        plain = Plain(FIRST)
        plain.weave(["feed"])
        self.assertIsNone(whole_over(over, plain))
        self.assertIsNotNone(whole_over(over, self.plain_at_takes()))

    def test_where_each_can_be(self):
        plain = self.plain_at_takes()
        self.told(plain, {
            "feed": ((1, {"n": 2, "t": 1}), [], 11),
            "one": ((0, {"m": 2, "n": 3}), [], 10),
            "two": ((1, {"p": ("pt", (3, 2)), "q": 1}), [2], 5)},
            {"s": [1], "d": [], "c": [], "e": [3]})
        whole = whole_over(Over(FIRST, SECOND, {}, {}), plain)
        self.told(whole, {
            "feed": ((0, {"n": 2, "t": 1}), [], 11),
            "one": ((0, {"n": 3, "m": 2}), [], 10),
            "two": ((2, {"q": 1, "p": ("pt", (2, 0, 3)), "last": ("pt", (0, 0, 0))}), [2], 5)},
            {"s": [1], "d": [], "c": [], "e": [3]})
        self.assertIs(whole.make, SECOND)

    def test_all_letters_are_turned(self):
        plain = Plain(FIRST)
        plain.weave(["feed"] * 16 + ["one"] * 15)
        told = {"pt": ("pt", term_of("(rec pt (+ y 100) 50 (* x 3))"))}
        whole = whole_over(Over(FIRST, SECOND, told, {}), plain)
        self.assertEqual(whole.letters("c"), [("pt", (101, 50, 3)), ("pt", (102, 50, 9)), ("pt", (103, 50, 18))])
        self.assertEqual(whole.letters("e"), [1, 3, 6])

    def test_the_house_handed_in_stays(self):
        over = Over(FIRST, SECOND, {}, {})
        plain, twin = self.plain_at_takes(), self.plain_at_takes()
        whole = whole_over(over=over, plain=plain)
        before = plain_all(whole)
        self.spoil(whole)
        whole.weave(["two", "feed", "one"] * 6)
        self.assertEqual(plain_all(plain), plain_all(twin))
        weaving = ["two", "feed", "one"] * 6
        self.assertEqual(plain.weave(weaving), twin.weave(weaving))
        self.assertEqual(plain_all(plain), plain_all(twin))
        self.assertEqual(plain_all(whole_over(over, self.plain_at_takes())), before)

    def test_it_stays_when_the_house_goes_on(self):
        plain = self.plain_at_takes()
        whole = whole_over(Over(FIRST, SECOND, {}, {}), plain)
        before = plain_all(whole)
        plain.weave(["two", "feed", "one"] * 10)
        self.assertEqual(plain_all(whole), before)

    def test_a_house_begun_amid(self):
        over = Over(FIRST, SECOND, {}, {})
        plain = plain_at(FIRST, *dicts_of(self.plain_at_takes()))
        self.assertEqual(plain_all(whole_over(over, plain)), plain_all(whole_over(over, self.plain_at_takes())))

    def test_makes_without_hands(self):
        self.told(whole_over(Over(EMPTY, EMPTY, {}, {}), Plain(EMPTY)), {}, {})

    def test_the_same_as_changing_all_over_and_sealing(self):
        source = random.Random(133)
        none, seen, letters = 0, 0, 0
        for k in range(400):
            over = Over(FIRST, SECOND, {}, {}) if k < 30 else Over(*right_over(source))
            hands = [hand[0] for hand in over.first[2]]
            weaving = stirred(source, over.first, source.randrange(40))
            plain, house = Plain(over.first), Mixed(over)
            # Each goes on to its next take, that more of them can be brought over.
            for at, h in enumerate(weaving + hands * 8):
                if at < len(weaving) or brought(over, h, plain.stand(h)) is None:
                    plain.step(h)
                    house.step(h)
            stands = [brought(over, h, plain.stand(h)) for h in hands]
            for h in source.sample(hands, len(hands)):
                house.change(h)
            whole = whole_over(over, plain)
            if None in stands:
                self.assertIsNone(whole)
                self.assertIsNone(sealed(house))
                none += 1
                continue
            seen += 1
            letters += sum(len(plain.letters(channel[0])) for channel in over.first[1])
            self.assertEqual(plain_all(whole), plain_all(sealed(house)))
            self.assertEqual(plain_all(whole), (
                {h: (stand, plain.told(h), plain.count(h)) for h, stand in zip(hands, stands)},
                {channel[0]: [letter_over(over, channel[0], letter) for letter in plain.letters(channel[0])]
                 for channel in over.first[1]}))
        self.assertGreater(none, 60)
        self.assertGreater(seen, 60)
        self.assertGreater(letters, 100)

    def test_a_sealed_house_to_a_third_make(self):
        onward = Over(SECOND, THIRD, {}, {})
        self.assertEqual(onward.lacking, ([], []))
        house = trio()
        self.done(house, "feed*10 one*5 one! one*5 feed feed! two! two")
        plain = sealed(house)
        self.assertIsNone(whole_over(onward, plain))
        plain.weave(["two"] * 2)
        whole = whole_over(onward, plain)
        self.told(whole, {
            "feed": ((0, {"t": 1}), [], 11),
            "one": ((0, {"m": 2, "n": 5}), [], 10),
            "two": ((5, {"p": ("pt", (1, 0)), "many": 0, "q": 1}), [], 3)},
            {"s": [1], "d": [], "c": [("pt", (5, 9))], "e": [5]})
        self.assertEqual(whole.weave(["two"] * 7), 3)
        self.assertEqual(whole.stand("two"), (0, {"p": ("pt", (5, 9)), "many": 0, "q": 5}))
        self.assertEqual(whole.weave(["feed"] * 3), 3)
        self.assertEqual(whole.letters("s"), [2])

    def test_the_third_make_goes_on_from_what_was_told_and_counted(self):
        onward = Over(SECOND, THIRD, {}, {})
        house = trio()
        self.done(house, "feed*15 one*5 two*4 one*5 one! one*5 feed feed! two!")
        whole = whole_over(onward, sealed(house))
        self.assertEqual((whole.told("two"), whole.count("two")), ([2], 4))
        self.assertEqual(whole.weave(["two"] * 8), 8)
        self.assertEqual((whole.told("two"), whole.count("two")), ([2, 1003, 2018], 12))
