"""Runs parted: what counts, and the deeds put right [2], [3], [14], [24], [25], [26], [27], [35], [36]."""

import random

from swapstride.codes import house_code
from swapstride.mixed import Mixed, same
from swapstride.overs import Over
from swapstride.parted import counting, parted, played, put_right
from swapstride.plain import Plain
from swapstride.reader import read
from swapstride.sealing import sealed, whole_over
from tests.chance import MixedModel
from tests.test_mixed import FIRST, SECOND, Checks, all_of, new, old, runs
from tests.test_overs import fields_of
from tests.test_plain import all_of as plain_all

TRIO = Over(FIRST, SECOND, {}, {})
EMPTY = Over(((), (), ()), ((), (), ()), {}, {})

# Deeds of trio by texts, with those of them that count.
COUNTED = [
    ("", ""),
    ("feed", "feed"),
    ("feed*5 one*5 two*4", "feed*5 one*5 two*4"),
    # What does nothing.
    ("one", ""),
    ("one two one? two? feed! feed?", ""),
    ("one*3 feed*4 two*2 one*2 feed! two? feed", "feed*4 one*2 feed"),
    ("feed! feed feed! feed! feed", "feed feed! feed"),
    # Going back that is done.
    ("one! one?", ""),
    ("one! one? one? one?", ""),
    ("feed*5 one! one*2 one?", "feed*5"),
    ("feed*5 one*5 two! two*3 two?", "feed*5 one*5"),
    ("feed feed! feed*2 feed?", "feed"),
    # Steps ahead of the changing over stay, and those behind the going back.
    ("feed*10 one*5 one! one*2 one? one*3", "feed*10 one*8"),
    # Going back that is not done.
    ("feed*5 one! one*3 one?", "feed*5 one! one*3"),
    ("feed*5 one*5 two?", "feed*5 one*5"),
    ("feed*10 one*10 two! two*6 two? two", "feed*10 one*10 two! two*6 two"),
    # A step that waits in between.
    ("one! one one feed*5 one one?", "feed*5"),
    # Amid deeds of others, which all stay.
    ("feed*5 one! feed*3 one feed*2 two! one? feed two?", "feed*11"),
    ("feed*5 one! feed one feed two! one? feed one", "feed*7 two! feed one"),
    # Several times, and with others that go back as well.
    ("one! one? one! one? one!", "one!"),
    ("feed*10 one! one one? one*5 one! one one? one*5", "feed*10 one*10"),
    ("feed*6 one*5 feed! one! two! feed*2 two*3 two? feed? one?", "feed*6 one*5"),
    ("feed*6 one*5 feed! one! two! feed*2 two*3 two? one?", "feed*6 one*5 feed! feed*2"),
    ("feed*6 feed! one! two! one? two? feed?", "feed*6"),
    ("feed*6 feed! one! two! two? one! one? two!", "feed*6 feed! two!"),
    # Changed over, stepped, gone back, and changed over again, amid deeds of others.
    ("feed*5 one! feed one feed one feed one? two! feed*2 one! feed one two? one*4 one?",
     "feed*5 feed*3 feed*2 one! feed one*5"),
    ("feed*10 one*5 two! one! two*3 one two? two two! one*4 two", "feed*10 one*5 one! one two two! one*4 two"),
]


def deeds_of(text):
    """Deeds by a text: `one*3` three steps, `one!` a changing over, `one?` a going back."""
    deeds = []
    for word in text.split():
        if word[-1] in "!?":
            deeds.append(({"!": "over", "?": "back"}[word[-1]], word[:-1]))
        else:
            name, _, many = word.partition("*")
            deeds += [("step", name)] * int(many or "1")
    return deeds


def steps(hands):
    return [("step", h) for h in hands]


class Base(Checks):
    def alike(self, one, other):
        """Two houses are the same in all."""
        self.assertIs(type(one), Mixed)
        self.assertEqual(all_of(one), all_of(other))
        self.assertIs(same(one, other), True)
        self.assertEqual(house_code(one), house_code(other))

    def handed(self, function, over, deeds):
        """What a function tells of deeds; nothing handed in is changed, and asked again it tells the same."""
        before, fields = list(deeds), fields_of(over)
        told = function(over, deeds)
        again = function(over=over, deeds=list(before))
        self.assertEqual(deeds, before)
        self.assertEqual(fields_of(over), fields)
        if isinstance(told, Mixed):
            self.alike(told, again)
        else:
            self.assertEqual(told, again)
        return told

    def deeds(self, told):
        """A list of deeds in their form."""
        self.assertIs(type(told), list)
        for deed in told:
            self.assertEqual([type(deed), len(deed)], [tuple, 2])
            self.assertIn(deed[0], ["step", "over", "back"])


class Played(Base):
    def test_no_deeds(self):
        self.alike(self.handed(played, TRIO, []), Mixed(TRIO))
        self.alike(self.handed(played, EMPTY, []), Mixed(EMPTY))

    def test_its_over(self):
        self.assertIs(played(TRIO, []).over, TRIO)

    def test_deeds_one_by_one(self):
        house = self.handed(played, TRIO, deeds_of("feed*10 one*5 one! one*5 two!"))
        self.letters(house, c=[old(1, 1), new(2, 9, 5)], e=[(1, 1), (2, 5)])
        self.assertEqual([house.make_of(h) for h in ["feed", "one", "two"]], [1, 2, 2])

    def test_deeds_that_do_nothing(self):
        self.alike(self.handed(played, TRIO, deeds_of("one two? one? feed! two")), Mixed(TRIO))

    def test_deeds_of_chance(self):
        for over, deeds in runs(211, 60):
            house = Mixed(over)
            for word, h in deeds:
                house.deed(word, h)
            self.alike(self.handed(played, over, deeds), house)

    def test_each_time_a_house_of_its_own(self):
        deeds = deeds_of("feed*5 one*5")
        house = played(TRIO, deeds)
        self.done(house, "two*4 feed")
        self.alike(played(TRIO, deeds), played(TRIO, list(deeds)))
        self.assertEqual(played(TRIO, deeds).told("two"), [])

    def test_the_deeds_changed_behind_the_call(self):
        deeds = deeds_of("feed*5 one*5")
        house = played(TRIO, deeds)
        before = all_of(house)
        deeds.clear()
        self.assertEqual(all_of(house), before)


class Counting(Base):
    def test_each(self):
        for text, left in COUNTED:
            with self.subTest(text=text):
                told = self.handed(counting, TRIO, deeds_of(text))
                self.deeds(told)
                self.assertEqual(told, deeds_of(left))

    def test_they_come_to_the_same_house(self):
        for text, left in COUNTED:
            self.alike(played(TRIO, deeds_of(left)), played(TRIO, deeds_of(text)))

    def test_a_list_of_its_own(self):
        deeds = deeds_of("feed*5 one*5")
        told = counting(TRIO, deeds)
        told.append(("step", "two"))
        self.assertEqual(deeds, deeds_of("feed*5 one*5"))
        told.clear()
        self.assertEqual(counting(TRIO, deeds), deeds)
        told = counting(TRIO, deeds)
        deeds.clear()
        self.assertEqual(told, deeds_of("feed*5 one*5"))

    def test_no_hands(self):
        self.assertEqual(counting(EMPTY, []), [])

    def test_hands_named_like_the_words_of_deeds(self):
        text = "channel over step over num\nchannel back over back num\nhand step\nsend over 1\nend\n" \
               "hand over\nbox n num\ntake k over n\nsend back n\nend\nhand back\nbox n num\ntake k back n\nend"
        over = Over(read(text), read(text), {}, {})
        deeds = [("over", "over"), ("step", "step"), ("back", "back"), ("step", "over"), ("over", "back"),
                 ("back", "over"), ("step", "over"), ("over", "over"), ("step", "over"), ("back", "back")]
        self.assertEqual(counting(over, deeds), [("step", "step"), ("step", "over"), ("step", "over")])
        self.assertEqual(parted(over, deeds), (["step", "over", "over"], [], []))

    def test_as_told_once_more(self):
        """The second telling plays all again but what is taken back."""
        seen = {"nothing": 0, "back": 0}
        for over, deeds in runs(212, 200, 70):
            model, house = MixedModel(over), Mixed(over)
            for word, h in deeds:
                model.deed(word, h)
                done = house.deed(word, h)
                seen["nothing"] += not done
                seen["back"] += done and word == "back"
            self.assertEqual(self.handed(counting, over, deeds), [each[:2] for each in model.done])
        self.assertGreater(min(seen.values()), 100)

    def test_each_does_a_thing_and_counted_again_they_stay(self):
        for over, deeds in runs(213, 120, 70):
            told = counting(over, deeds)
            self.assertNotIn("back", [word for word, h in told])
            self.assertEqual(counting(over, told), told)
            house = Mixed(over)
            for word, h in told:
                self.assertIs(house.deed(word, h), True)
            self.alike(house, played(over, deeds))

    def test_four_hundred_deeds(self):
        for over, deeds in runs(214, 12, 400):
            told = counting(over, deeds)
            self.alike(played(over, told), played(over, deeds))
            self.alike(played(over, put_right(over, deeds)), played(over, deeds))


class Parted(Base):
    def parts(self, text, first, changed, second):
        told = self.handed(parted, TRIO, deeds_of(text))
        self.assertEqual([type(told)] + [type(each) for each in told], [tuple, list, list, list])
        self.assertEqual(told, ([h for _, h in deeds_of(first)], changed.split(), [h for _, h in deeds_of(second)]))
        overs = [("over", h) for h in changed.split()]
        right = self.handed(put_right, TRIO, deeds_of(text))
        self.deeds(right)
        self.assertEqual(right, deeds_of(first) + overs + deeds_of(second))
        self.alike(played(TRIO, right), played(TRIO, deeds_of(text)))

    def test_no_deeds(self):
        self.parts("", "", "", "")
        self.assertEqual((parted(EMPTY, []), put_right(EMPTY, [])), (([], [], []), []))

    def test_nothing_that_counts(self):
        self.parts("one two feed? one! one?", "", "", "")

    def test_only_the_first_make(self):
        self.parts("feed*3 one feed*2 two one", "feed*5 one", "", "")

    def test_changings_over_in_their_order(self):
        self.parts("two! one! feed feed!", "feed", "two one feed", "")
        self.parts("feed feed! one! two!", "feed", "feed one two", "")

    def test_steps_of_both(self):
        self.parts("feed*5 one! one two! feed one*4 two", "feed*6", "one two", "one*5 two")
        self.parts("feed*6 feed! feed*2 one*2 feed*2", "feed*6 one*2", "feed", "feed*4")
        # What the second make sent is not taken by an elder hand.
        self.parts("feed feed! feed*4 one*2", "feed", "feed", "feed*4")

    def test_a_step_as_changed_ahead_of_one_as_elder(self):
        self.parts("feed*10 one! one*5 feed one*2 feed two! feed two", "feed*13", "one two", "one*7 two")

    def test_all_changed(self):
        self.parts("feed*6 one*4 one one! feed! two! two feed two two*2", "feed*6 one*5", "one feed two",
                   "two feed two two")

    def test_what_was_taken_back_is_nowhere(self):
        self.parts("feed*5 one! one*2 one? one", "feed*5 one", "", "")
        self.parts("feed*5 one! feed one two! feed one? two? one feed", "feed*7 one feed", "", "")

    def test_changed_over_once_more(self):
        self.parts("feed*10 two! one! one one? two? one*5 one! two! one*2 two", "feed*10 one*5", "one two",
                   "one one two")

    def test_lists_of_its_own(self):
        deeds = deeds_of("feed*5 one! one two!")
        told = parted(TRIO, deeds)
        for each in told:
            each.append("feed")
            each.reverse()
        self.assertEqual(parted(TRIO, deeds), (["feed"] * 5, ["one", "two"], ["one"]))
        right = put_right(TRIO, deeds)
        right.clear()
        self.assertEqual(put_right(TRIO, deeds), deeds_of("feed*5 one! two! one"))
        self.assertEqual(deeds, deeds_of("feed*5 one! one two!"))

    def test_as_told_once_more(self):
        for over, deeds in runs(215, 150, 70):
            model = MixedModel(over)
            for word, h in deeds:
                model.deed(word, h)
            told = tuple([h for word, h, side, _ in model.done if (word, side) == each]
                         for each in [("step", 1), ("over", 1), ("step", 2)])
            self.assertEqual(self.handed(parted, over, deeds), told)
            right = steps(told[0]) + [("over", h) for h in told[1]] + steps(told[2])
            self.assertEqual(self.handed(put_right, over, deeds), right)


class PutRight(Base):
    def test_it_comes_to_the_same_house_at_every_moment(self):
        moved = 0
        for over, deeds in runs(216, 60, 50):
            for many in range(len(deeds) + 1):
                right = put_right(over, deeds[:many])
                self.alike(played(over, right), played(over, deeds[:many]))
                moved += right != counting(over, deeds[:many])
        self.assertGreater(moved, 300)

    def test_each_does_a_thing(self):
        for over, deeds in runs(217, 100, 70):
            house = Mixed(over)
            right = put_right(over, deeds)
            for word, h in right:
                self.assertIs(house.deed(word, h), True)
            self.assertEqual(sorted(right), sorted(counting(over, deeds)))
            self.assertEqual(put_right(over, right), right)
            self.assertEqual(counting(over, right), right)

    def whole(self, over, deeds):
        """The house of the first make by its rows, brought over at once, and gone on with by the second one's."""
        first, changed, second = parted(over, deeds)
        plain = Plain(over.first)
        self.assertEqual(plain.weave(first), len(first))
        house = whole_over(over, plain)
        if house is not None:
            self.assertEqual(house.weave(second), len(second))
        return house

    def test_the_sealed_house_of_trio(self):
        deeds = deeds_of("feed*15 one*5 two*4 one*5 one! one*5 feed feed! two! two*4 feed*2")
        house = played(TRIO, deeds)
        self.assertEqual(sealed(house).stand("two"), (4, {"q": 3, "p": ("pt", (3, 9, 9)), "last": ("pt", (2, 0, 3))}))
        self.assertEqual(plain_all(sealed(house)), plain_all(self.whole(TRIO, deeds)))

    def test_the_sealed_house(self):
        seen, second = 0, 0
        for over, deeds in runs(218, 350, 80):
            house = played(over, deeds)
            if sealed(house) is None:
                self.assertLess(len(parted(over, deeds)[1]), len(over.first[2]))
                continue
            self.assertEqual(sorted(parted(over, deeds)[1]), sorted(hand[0] for hand in over.first[2]))
            self.assertEqual(plain_all(sealed(house)), plain_all(self.whole(over, deeds)))
            seen += 1
            second += len(parted(over, deeds)[2]) > 3
        self.assertGreater(seen, 40)
        self.assertGreater(second, 20)

    def test_weavings_of_the_first_list_alike_by_hands_do_as_well(self):
        """Any order of the first list in which all can be done comes to the same house of the first make."""
        source = random.Random(219)
        for over, deeds in runs(220, 60, 60):
            first = parted(over, deeds)[0]
            left = {h: first.count(h) for h in first}
            plain, other = Plain(over.first), Plain(over.first)
            plain.weave(first)
            while any(left.values()):
                h = source.choice([h for h in left if left[h]])
                left[h] -= other.step(h)
            self.assertEqual(plain_all(other), plain_all(plain))
