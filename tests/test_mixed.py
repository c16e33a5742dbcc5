"""Houses that change [2], [3], [10], [13], [14], [23], [24], [25], [27]."""

import copy
import itertools
import random
import unittest

from swapstride.bricks import term_of
from swapstride.lone import Lone
from swapstride.looker import look
from swapstride.makes import hand_of
from swapstride.mixed import Mixed, same
from swapstride.overs import Over, brought, letter_over
from swapstride.plain import Plain, plain_at
from swapstride.reader import read
from swapstride.values import is_of
from tests.chance import MixedModel, right_make, right_over
from tests.test_plain import PAIR, SELF, stirred
from tests.test_plain import all_of as plain_all

# One hand feeds another, which sends to a third one through two channels; the first one hands letters to itself, too.
FIRST = read("""rec pt x num y num
channel s feed feed num
channel d feed one num
channel c one two pt
channel e one two num
hand feed
box n num
box t num
send s 1
take f s t
set n (+ n t)
send d n
go 0
hand one
box m num
box n num
take k d m
set n (+ n m)
send c (rec pt n m)
send e n
go 0
hand two
box p pt
box q num
take l c p
take j e q
tell (+ (get p x) q)
go 0""")
SECOND = read("""rec pt y num z num x num
channel s feed feed num
channel d feed one num
channel c one two pt
channel e one two num
hand feed
box n num
box t num
take f s t
set n (+ n (* 10 t))
send d n
send s 2
go 0
hand one
box n num
box m num
take k d m
set n (+ n (* 2 m))
send e n
send c (rec pt m 9 n)
go 0
hand two
box q num
box p pt
box last pt
take l c p
set last p
take j e q
take i c p
take h e q
tell (+ (+ (get p x) (get p z)) (+ q (get last x)))
go 0""")
HANDS = ["feed", "one", "two"]
CHANNELS = ["s", "d", "c", "e"]


def trio():
    """A house of the over from FIRST to SECOND, all by rules."""
    return Mixed(Over(FIRST, SECOND, {}, {}))


def do(house, text):
    """Do deeds by a text: `one*3` three steps, `one!` a changing over, `one?` a going back; whether each was done."""
    seen = []
    for word in text.split():
        if word[-1] in "!?":
            seen.append(house.change(word[:-1]) if word[-1] == "!" else house.back(word[:-1]))
        else:
            name, _, many = word.partition("*")
            seen.extend(house.step(name) for _ in range(int(many or "1")))
    return seen


def twin_of(house):
    """A house of its own that is the same, of the same over."""
    return copy.deepcopy(house, {id(house.over): house.over})


def all_of(house):
    """All that a house tells."""
    hands = [hand[0] for hand in house.over.first[2]]
    return ({h: (house.make_of(h), house.stand(h), house.told(h), house.count(h)) for h in hands},
            {channel[0]: house.letters(channel[0]) for channel in house.over.first[1]})


def old(x, y):
    return (1, ("pt", (x, y)))


def new(y, z, x):
    return (2, ("pt", (y, z, x)))


def runs(seed, many, long=60):
    """Overs, that of trio first and then so many of chance, each with deeds of chance."""
    source = random.Random(seed)
    words = ["step"] * 6 + ["over"] * 4 + ["back"]
    for k in range(many + 5):
        over = Over(FIRST, SECOND, {}, {}) if k < 5 else Over(*right_over(source))
        hands = [hand[0] for hand in over.first[2]]
        yield over, [(source.choice(words), source.choice(hands)) for _ in range(long)]


class Checks(unittest.TestCase):
    def done(self, house, text):
        """Each deed of a text is done."""
        seen = do(house, text)
        self.assertEqual(seen, [True] * len(seen))
        self.assertEqual([type(each) for each in seen], [bool] * len(seen))

    def undone(self, house, text):
        """No deed of a text does a thing; the house stays as it was."""
        before = all_of(house)
        twin = twin_of(house)
        for each in do(house, text):
            self.assertIs(each, False)
        self.assertEqual(all_of(house), before)
        self.assertIs(same(house, twin), True)

    def at(self, house, h, make, row, count, **boxes):
        self.assertEqual((house.make_of(h), house.stand(h), house.count(h)), (make, (row, boxes), count))

    def letters(self, house, **told):
        for c, each in told.items():
            self.assertEqual(house.letters(c), each)


class Begin(Checks):
    def test_the_makes_here(self):
        self.assertIs(look(FIRST), True)
        self.assertIs(look(SECOND), True)
        self.assertEqual(Over(FIRST, SECOND, {}, {}).lacking, ([], []))

    def test_as_a_house_of_the_first_make(self):
        house = trio()
        self.at(house, "feed", 1, 0, 0, n=0, t=0)
        self.at(house, "one", 1, 0, 0, m=0, n=0)
        self.at(house, "two", 1, 0, 0, p=("pt", (0, 0)), q=0)
        self.letters(house, s=[], d=[], c=[], e=[])
        self.assertEqual([house.told(h) for h in HANDS], [[], [], []])

    def test_its_over(self):
        over = Over(FIRST, SECOND, {}, {})
        self.assertIs(Mixed(over).over, over)

    def test_by_the_names_of_its_arguments(self):
        house = Mixed(over=Over(FIRST, SECOND, {}, {}))
        self.assertIs(house.step(h="feed"), True)
        self.assertIs(house.deed(word="step", h="feed"), True)
        self.assertIs(house.change(h="one"), True)
        self.assertIs(house.back(h="one"), True)
        self.assertEqual((house.make_of(h="one"), house.stand(h="feed")[0], house.told(h="two"), house.letters(c="s"),
                          house.count(h="feed")), (1, 2, [], [], 2))
        self.assertIs(same(one=house, other=house), True)

    def test_no_hands(self):
        empty = ((), (), ())
        self.assertIs(same(Mixed(Over(empty, empty, {}, {})), Mixed(Over(empty, empty, {}, {}))), True)

    def test_what_is_told_is_of_its_kind(self):
        house = trio()
        self.done(house, "feed*4 one*4 two*3")
        self.assertEqual([type(house.stand("two")), type(house.stand("two")[1]), type(house.told("two")),
                          type(house.letters("e")), type(house.count("two")), type(house.make_of("two"))],
                         [tuple, dict, list, list, int, int])
        self.done(house, "feed*5 one*5")
        self.assertEqual([type(letter) for letter in house.letters("c") + house.letters("e")], [tuple, tuple])


class Elder(Checks):
    def test_a_run(self):
        house = trio()
        self.done(house, "feed*5 one*4")
        self.at(house, "feed", 1, 0, 5, n=1, t=1)
        self.at(house, "one", 1, 4, 4, m=1, n=1)
        self.letters(house, s=[], d=[], c=[old(1, 1)], e=[(1, 1)])
        self.done(house, "two*3")
        self.at(house, "two", 1, 3, 3, p=("pt", (1, 1)), q=1)
        self.assertEqual(house.told("two"), [2])
        self.letters(house, c=[], e=[])
        self.done(house, "two")
        self.undone(house, "two two")
        self.done(house, "one")
        self.undone(house, "one*3")

    def test_alone_they_do_as_in_a_plain_house(self):
        source = random.Random(111)
        overs = [Over(FIRST, SECOND, {}, {})] + [Over(make, make, {}, {}) for make in [PAIR, SELF]]
        overs += [Over(*right_over(source)) for _ in range(60)]
        overs += [Over(make, make, {}, {}) for make in [right_make(source) for _ in range(40)]]
        for over in overs:
            house = Mixed(over)
            plain = Plain(over.first)
            for h in stirred(source, over.first, 60):
                self.assertIs(house.step(h), plain.step(h))
                hands, letters = plain_all(plain)
                self.assertEqual(all_of(house), ({name: (1,) + each for name, each in hands.items()},
                                                 {c: [(1, letter) for letter in each] for c, each in letters.items()}))

    def test_waits_for_a_letter(self):
        self.undone(trio(), "one two one two")

    def test_waits_where_the_first_letter_is_the_second_makes(self):
        house = trio()
        self.done(house, "feed*5 one! one*3")
        self.letters(house, c=[], e=[(2, 2)])
        self.done(house, "one")
        self.letters(house, c=[new(1, 9, 2)], e=[(2, 2)])
        self.undone(house, "two two two")

    def test_waits_at_the_second_makes_letter_behind_one_of_the_first(self):
        house = trio()
        self.done(house, "feed*5 one*5 one! feed*5 one*4")
        self.letters(house, c=[old(1, 1), new(2, 9, 5)], e=[(1, 1), (2, 5)])
        self.done(house, "two*4")
        self.assertEqual(house.told("two"), [2])
        self.undone(house, "two two")
        self.letters(house, c=[new(2, 9, 5)], e=[(2, 5)])

    def test_waits_by_the_channel_from_which_it_would_take(self):
        # Of one channel the first letter is the first make's, of the other the second make's.
        text = "channel c a b num\nchannel d a b num\nchannel g b a num\n"
        hand = "hand b\nbox n num\nsend g 1\ntake x c n\ntake y d n\ntell n\nend"
        first = read(text + "hand a\nbox n num\nsend c 5\ntake m g n\nend\n" + hand)
        second = read(text + "hand a\nbox n num\ntake m g n\nsend d 6\nend\n" + hand)
        house = Mixed(Over(first, second, {}, {}))
        self.done(house, "a b a! a*2 b")
        self.letters(house, c=[], d=[(2, 6)])
        self.undone(house, "b b")
        self.done(house, "b! b b")
        self.assertEqual(house.told("b"), [6])

    def test_other_rows_than_takes_do_not_wait(self):
        house = trio()
        self.done(house, "feed*5 one! one*4 feed*5")
        self.done(house, "feed*20")
        self.assertEqual(house.count("feed"), 30)


class Changed(Checks):
    def test_a_run(self):
        house = trio()
        self.done(house, "feed*5 one! one")
        self.at(house, "one", 2, 1, 1, n=0, m=1)
        self.done(house, "one")
        self.at(house, "one", 2, 2, 2, n=2, m=1)
        self.done(house, "one*3")
        self.at(house, "one", 2, 0, 5, n=2, m=1)
        self.letters(house, e=[(2, 2)], c=[new(1, 9, 2)])
        self.undone(house, "one")

    def test_letters_of_both_makes(self):
        house = trio()
        self.done(house, "feed*10 one*5 one! one*5 two!")
        self.letters(house, c=[old(1, 1), new(2, 9, 5)], e=[(1, 1), (2, 5)])
        self.at(house, "two", 2, 0, 0, q=0, p=("pt", (0, 0, 0)), last=("pt", (0, 0, 0)))
        self.done(house, "two")
        # Turned by rules: y, a nought for z, x.
        self.at(house, "two", 2, 1, 1, q=0, p=("pt", (1, 0, 1)), last=("pt", (0, 0, 0)))
        self.letters(house, c=[new(2, 9, 5)], e=[(1, 1), (2, 5)])
        self.done(house, "two*4")
        self.at(house, "two", 2, 5, 5, q=5, p=("pt", (2, 9, 5)), last=("pt", (1, 0, 1)))
        self.letters(house, c=[], e=[])
        self.done(house, "two*2")
        self.assertEqual(house.told("two"), [20])
        self.undone(house, "two")

    def test_letters_turned_by_told_ways(self):
        told = {"pt": ("pt", term_of("(rec pt (+ y 100) 50 (* x 3))"))}
        house = Mixed(Over(FIRST, SECOND, told, {}))
        self.done(house, "feed*5 one*4 two! two")
        self.at(house, "two", 2, 1, 1, q=0, p=("pt", (101, 50, 3)), last=("pt", (0, 0, 0)))

    def test_a_letter_of_the_second_make_is_not_turned(self):
        told = {"pt": ("pt", term_of("(rec pt (+ y 100) 50 (* x 3))"))}
        house = Mixed(Over(FIRST, SECOND, told, {}))
        self.done(house, "feed*5 one! one*4 two! two")
        self.at(house, "two", 2, 1, 1, q=0, p=("pt", (1, 9, 2)), last=("pt", (0, 0, 0)))

    def test_a_kind_of_the_same_form_is_turned_all_the_same(self):
        text = ("rec p n num\nchannel c a b p\nhand a\nsend c (rec p 4)\nend\nhand b\nbox p p\ntake m c p\n"
                "tell (get p n)\nend")
        house = Mixed(Over(read(text), read(text), {"p": ("p", term_of("(rec p (+ n 1))"))}, {}))
        self.done(house, "a b! b b")
        self.assertEqual(house.told("b"), [5])

    def test_letters_to_itself(self):
        house = trio()
        self.done(house, "feed feed! feed*4")
        self.at(house, "feed", 2, 4, 5, n=10, t=1)
        self.letters(house, s=[(2, 2)], d=[(2, 10)])
        self.done(house, "feed feed*4")
        self.letters(house, s=[(2, 2)], d=[(2, 10), (2, 30)])

    def test_rows_are_the_second_makes(self):
        first = read("channel c h h num\nhand h\nbox n num\nsend c 0\nsend c 7\ntake m c n\nend")
        second = read("channel c h h num\nhand h\nbox n num\nend\ntell 5\nif n 1\nset n (+ n 1)\ngo 2\ntake m c n\n"
                      "go 2")
        house = Mixed(Over(first, second, {}, {}))
        self.done(house, "h h h! h")
        self.letters(house, c=[(1, 7)])
        self.done(house, "h h h h h h h")
        self.assertEqual((house.told("h"), house.stand("h"), house.count("h")), ([5], (1, {"n": 1}), 10))

    def test_at_an_end_nothing_is_done(self):
        text = "channel c a a num\nhand a\nbox n num\nsend c 1\ntake m c n\nend"
        house = Mixed(Over(read(text), read(text), {}, {}))
        self.done(house, "a a")
        self.undone(house, "a a! a a?")
        house = Mixed(Over(read(text), read(text), {}, {}))
        self.done(house, "a a! a")
        self.undone(house, "a a a! a")
        # It ended without sending or telling, so it may go back.
        self.done(house, "a?")
        self.at(house, "a", 1, 1, 1, n=0)
        self.letters(house, c=[(1, 1)])


class Changing(Checks):
    def test_all_else_stays(self):
        house = trio()
        self.done(house, "feed*10 one*10 two*4")
        before = all_of(house)
        self.done(house, "two!")
        hands, letters = all_of(house)
        self.assertEqual(letters, before[1])
        self.assertEqual({h: hands[h] for h in ["feed", "one"]}, {h: before[0][h] for h in ["feed", "one"]})
        self.assertEqual(hands["two"], (2, (0, {"q": 1, "p": ("pt", (1, 0, 1)), "last": ("pt", (0, 0, 0))}), [2], 4))

    def test_again_it_is_not_done(self):
        house = trio()
        self.done(house, "feed*5 one!")
        self.undone(house, "one! one!")
        self.done(house, "one")
        self.undone(house, "one!")
        self.done(house, "one*4")
        self.undone(house, "one!")

    def test_a_changed_hand_whose_row_is_a_take_in_both_makes(self):
        make = read("channel c h h num\nhand h\nbox n num\nsend c 1\ntake m c n\ngo 0")
        house = Mixed(Over(make, make, {}, {}))
        self.done(house, "h h!")
        self.undone(house, "h!")

    def test_only_at_takes(self):
        house = trio()
        self.undone(house, "feed!")
        for h, rows in [("feed", [None, True, None, None, None]), ("one", [True, None, None, None, None]),
                        ("two", [True, True, None, None])]:
            for row, can in enumerate(rows):
                house = trio()
                self.done(house, "feed*5" + " one*5" * (h == "two") if h != "feed" else "")
                self.done(house, f"{h}*{row}")
                self.assertEqual(house.stand(h)[0], row)
                if can:
                    self.done(house, f"{h}!")
                else:
                    self.undone(house, f"{h}!")

    def test_only_where_the_place_has_a_way(self):
        two = ("two", SECOND[2][2][1], (("take", "j", "e", "q"), ("go", 0)))
        second = (SECOND[0], SECOND[1], SECOND[2][:2] + (two,))
        house = Mixed(Over(FIRST, second, {}, {}))
        self.undone(house, "two!")
        self.done(house, "feed*5 one*5 two")
        self.done(house, "two!")
        self.at(house, "two", 2, 0, 1, q=0, p=("pt", (1, 0, 1)), last=("pt", (0, 0, 0)))

    def test_where_letters_wait_and_where_none_do(self):
        for ahead in ["", "feed*5", "feed*5 one*4", "feed*5 one! one*4"]:
            house = trio()
            self.done(house, ahead)
            self.done(house, "two!")

    def test_a_stand_by_a_told_way(self):
        way = ("i", (("q", term_of("(+ (get p x) 5)")), ("p", term_of("(rec pt q q q)")), ("last", term_of("p"))))
        house = Mixed(Over(FIRST, SECOND, {}, {("two", "j"): way}))
        self.done(house, "feed*5 one*5 two two!")
        self.at(house, "two", 2, 3, 1, q=6, p=("pt", (0, 0, 0)), last=("pt", (1, 0, 1)))
        self.done(house, "two?")
        self.at(house, "two", 1, 1, 1, p=("pt", (1, 1)), q=0)

    def test_the_stand_is_that_which_is_brought_over(self):
        source = random.Random(112)
        seen = 0
        for _ in range(100):
            over = Over(*right_over(source))
            house = Mixed(over)
            for h in stirred(source, over.first, 40):
                house.step(h)
                stand = brought(over, h, house.stand(h))
                twin = twin_of(house)
                self.assertIs(twin.change(h), stand is not None)
                self.assertEqual(twin.stand(h), house.stand(h) if stand is None else stand)
                self.assertEqual(twin.make_of(h), 1 if stand is None else 2)
                seen += stand is not None
        self.assertGreater(seen, 200)


class Back(Checks):
    def test_not_of_an_elder_hand(self):
        house = trio()
        self.undone(house, "feed? one? two?")
        self.done(house, "feed*5 one*5 two*4")
        self.undone(house, "feed? one? two?")

    def test_at_once(self):
        house = trio()
        self.done(house, "feed*5 one*5 two")
        twin = twin_of(house)
        before = all_of(house)
        self.done(house, "two! two?")
        self.assertEqual(all_of(house), before)
        self.assertIs(same(house, twin), True)
        self.undone(house, "two?")

    def test_behind_a_letter_of_the_first_make(self):
        house = trio()
        self.done(house, "feed*5 one*5")
        before = all_of(house)
        for many in [1, 2, 3]:
            self.done(house, f"two! two*{many} two?")
            self.assertEqual(all_of(house), before)

    def test_behind_letters_of_both_makes_from_several_channels(self):
        house = trio()
        self.done(house, "feed*10 one*5 one! one*5 two! two*5")
        self.letters(house, c=[], e=[])
        self.done(house, "feed*5 one*5")
        self.letters(house, c=[new(3, 9, 11)], e=[(2, 11)])
        before = all_of(house)[0]
        self.done(house, "two?")
        self.at(house, "two", 1, 0, 0, p=("pt", (0, 0)), q=0)
        self.letters(house, c=[old(1, 1), new(2, 9, 5), new(3, 9, 11)], e=[(1, 1), (2, 5), (2, 11)], s=[], d=[])
        self.assertEqual({h: all_of(house)[0][h] for h in ["feed", "one"]}, {h: before[h] for h in ["feed", "one"]})
        # As an elder hand it takes those of the first make, and waits at the others.
        self.done(house, "two*4")
        self.assertEqual(house.told("two"), [2])
        self.undone(house, "two")

    def test_behind_letters_of_both_makes_from_one_channel(self):
        text = ("channel c a b num\nchannel g b a num\nhand a\nbox n num\n{}hand b\nbox n num\nbox m num\nsend g 0\n"
                "take x c n\ntake y c m\ntake z c n\ntell (+ n m)\nend")
        first = read(text.format("send c 5\nsend c 6\ntake k g n\nend\n"))
        second = read(text.format("take k g n\nsend c 7\nsend c 8\nend\n"))
        house = Mixed(Over(first, second, {}, {}))
        self.done(house, "a*2 b b! a! a*3 b*3")
        self.letters(house, c=[(2, 8)])
        self.at(house, "b", 2, 4, 4, n=7, m=6)
        self.done(house, "b?")
        self.letters(house, c=[(1, 5), (1, 6), (2, 7), (2, 8)])
        self.at(house, "b", 1, 1, 1, n=0, m=0)
        self.undone(house, "b?")
        # Amid: changed behind one letter, gone back behind two.
        self.done(house, "b b! b")
        self.letters(house, c=[(2, 7), (2, 8)])
        self.done(house, "b b?")
        self.letters(house, c=[(1, 6), (2, 7), (2, 8)])
        self.at(house, "b", 1, 2, 2, n=5, m=0)
        self.done(house, "b! b b b")
        self.assertEqual(house.told("b"), [13])
        self.undone(house, "b?")

    def test_not_behind_a_telling(self):
        house = trio()
        self.done(house, "feed*10 one*5 one! one*5 two! two*6")
        self.undone(house, "two?")
        self.done(house, "two")
        self.undone(house, "two?")

    def test_not_behind_a_sending(self):
        for many in [3, 4, 5]:
            house = trio()
            self.done(house, f"feed*5 one! one*{many}")
            self.undone(house, "one?")
        for many in [0, 1, 2]:
            house = trio()
            self.done(house, f"feed*5 one! one*{many} one?")
            self.at(house, "one", 1, 0, 0, m=0, n=0)
            self.letters(house, d=[(1, 1)], c=[], e=[])

    def test_not_behind_a_sending_to_itself(self):
        house = trio()
        self.done(house, "feed feed! feed*2 feed? feed! feed*4")
        self.undone(house, "feed?")

    def test_tellings_and_sendings_ahead_of_the_changing_over_do_not_count(self):
        house = trio()
        self.done(house, "feed*15 one*15 two*8 two!")
        self.assertEqual(house.told("two"), [2, 6])
        self.done(house, "two two?")
        self.assertEqual((house.told("two"), house.count("two"), house.make_of("two")), ([2, 6], 8, 1))
        self.done(house, "feed*5 one! one one?")
        self.at(house, "one", 1, 0, 15, m=3, n=6)

    def test_tellings_of_other_hands_do_not_count(self):
        house = trio()
        self.done(house, "feed*10 one*5 one! one two*4")
        self.assertEqual(house.told("two"), [2])
        self.done(house, "one?")
        self.letters(house, d=[(1, 2)])

    def test_changed_over_gone_back_and_changed_over_again(self):
        house = trio()
        self.done(house, "feed*5 one*5 two!")
        once = twin_of(house)
        self.done(house, "two*2 two? two!")
        self.assertEqual(all_of(house), all_of(once))
        self.assertIs(same(house, once), True)
        self.done(house, "two*3 two?")
        self.at(house, "two", 1, 0, 0, p=("pt", (0, 0)), q=0)
        self.done(house, "two two!")
        self.at(house, "two", 2, 2, 1, q=0, p=("pt", (1, 0, 1)), last=("pt", (0, 0, 0)))
        self.done(house, "two two?")
        self.at(house, "two", 1, 1, 1, p=("pt", (1, 1)), q=0)
        self.letters(house, c=[], e=[(1, 1)])

    def test_a_second_changing_over_forgets_what_was_taken_ahead_of_it(self):
        house = trio()
        self.done(house, "feed*10 one*10 two! two*3 two? two*4 two! two*2 two?")
        self.at(house, "two", 1, 0, 4, p=("pt", (1, 1)), q=1)
        self.letters(house, c=[old(3, 2)], e=[(1, 3)])

    def test_several_hands_at_once(self):
        house = trio()
        self.done(house, "feed*6 one*5 feed! one! two!")
        self.done(house, "feed*2 two*3")
        self.letters(house, s=[], d=[], c=[], e=[])
        self.done(house, "two? feed? one?")
        self.letters(house, s=[(1, 1)], d=[], c=[old(1, 1)], e=[(1, 1)])
        self.assertEqual([house.make_of(h) for h in HANDS], [1, 1, 1])
        twin = trio()
        self.done(twin, "feed*6 one*5")
        self.assertEqual(all_of(house), all_of(twin))
        self.assertIs(same(house, twin), True)

    def test_waiting_steps_of_a_changed_hand_do_not_hinder(self):
        house = trio()
        self.done(house, "feed*5 one!")
        self.done(house, "one one")
        twin = twin_of(house)
        self.assertEqual(do(house, "two! two two two?"), [True, False, False, True])
        self.assertIs(same(house, twin), True)

    def test_as_though_neither_the_changing_over_nor_its_steps_had_been(self):
        seen = 0
        for over, deeds in runs(113, 200):
            house = Mixed(over)
            left = []
            for word, h in deeds:
                if house.deed(word, h):
                    left.append((word, h))
                    if word == "back":
                        left = self.without(left, h)
                        seen += 1
                        twin = Mixed(over)
                        for each in left:
                            self.assertIs(twin.deed(*each), True)
                        self.assertEqual(all_of(twin), all_of(house))
                        self.assertIs(same(twin, house), True)
        self.assertGreater(seen, 100)

    def without(self, deeds, h):
        at = max(k for k, each in enumerate(deeds) if each == ("over", h))
        return deeds[:at] + [each for each in deeds[at:] if each[1] != h]


class Deeds(Checks):
    def test_by_their_words(self):
        house = trio()
        twin = trio()
        ways = {"step": twin.step, "over": twin.change, "back": twin.back}
        for word, h in [("step", "feed")] * 5 + [("over", "one"), ("back", "one"), ("step", "one"), ("over", "one"),
                                                 ("back", "one"), ("over", "two"), ("over", "two"), ("step", "two"),
                                                 ("back", "two"), ("back", "two"), ("step", "one")]:
            told = house.deed(word, h)
            self.assertIs(type(told), bool)
            self.assertIs(told, ways[word](h))
            self.assertEqual(all_of(house), all_of(twin))
            self.assertIs(same(house, twin), True)

    def test_each_word(self):
        house = trio()
        self.assertIs(house.deed("step", "two"), False)
        self.assertIs(house.deed("back", "two"), False)
        self.assertIs(house.deed("over", "two"), True)
        self.assertEqual(house.make_of("two"), 2)
        self.assertIs(house.deed("over", "two"), False)
        self.assertIs(house.deed("back", "two"), True)
        self.assertEqual(house.make_of("two"), 1)
        self.assertIs(house.deed("step", "feed"), True)
        self.assertEqual(house.count("feed"), 1)

    def test_deeds_of_chance_by_both(self):
        for over, deeds in runs(114, 40):
            house, twin = Mixed(over), Mixed(over)
            for word, h in deeds:
                told = {"step": twin.step, "over": twin.change, "back": twin.back}[word](h)
                self.assertIs(house.deed(word, h), told)
                self.assertIs(same(house, twin), True)

    def test_a_deed_that_does_nothing_changes_nothing(self):
        seen = 0
        for over, deeds in runs(115, 60):
            house = Mixed(over)
            for word, h in deeds:
                twin = twin_of(house)
                if not house.deed(word, h):
                    self.assertIs(same(house, twin), True)
                    self.assertEqual(all_of(house), all_of(twin))
                    seen += 1
        self.assertGreater(seen, 500)


class Own(Checks):
    def test_all_that_is_told_changed_by_the_asker(self):
        for over, deeds in runs(117, 30):
            house, twin = Mixed(over), Mixed(over)
            for word, h in deeds:
                self.spoil(house)
                self.assertIs(house.deed(word, h), twin.deed(word, h))
                self.assertEqual(all_of(house), all_of(twin))
                self.assertIs(same(house, twin), True)

    def spoil(self, house):
        for hand in house.over.first[2]:
            boxes = house.stand(hand[0])[1]
            for x in list(boxes):
                boxes[x] = 77
            house.stand(hand[0])[1].clear()
            house.told(hand[0]).append(5)
            house.told(hand[0]).clear()
        for channel in house.over.first[1]:
            house.letters(channel[0]).append((1, 0))
            house.letters(channel[0]).clear()

    def test_what_was_told_stays_when_the_house_goes_on(self):
        for over, deeds in runs(118, 20):
            house = Mixed(over)
            for word, h in deeds:
                told = all_of(house)
                before = copy.deepcopy(told)
                house.deed(word, h)
                self.assertEqual(told, before)

    def test_what_was_handed_in_changed_behind_the_call(self):
        for over, deeds in runs(119, 30):
            ways, places = dict(over.ways), dict(over.places)
            house, twin = Mixed(Over(over.first, over.second, ways, places)), Mixed(over)
            ways.clear()
            places.clear()
            for word, h in deeds:
                self.assertIs(house.deed(word, h), twin.deed(word, h))
                self.assertEqual(all_of(house), all_of(twin))

    def test_the_over_is_not_changed(self):
        for over, deeds in runs(120, 30):
            before = copy.deepcopy([over.first, over.second, over.ways, over.places, over.lacking])
            house = Mixed(over)
            for word, h in deeds:
                house.deed(word, h)
            self.assertEqual([over.first, over.second, over.ways, over.places, over.lacking], before)

    def test_two_houses_of_one_over_hinder_not_one_another(self):
        over = Over(FIRST, SECOND, {}, {})
        one, other = Mixed(over), Mixed(over)
        self.done(one, "feed*5 one! one*5 two!")
        self.assertEqual(all_of(other), all_of(trio()))
        self.assertIs(same(other, trio()), True)


class Promise(unittest.TestCase):
    def both(self, seed, many):
        """Overs, each with a house and its second telling behind deeds of chance."""
        for over, deeds in runs(seed, many, 80):
            house, model = Mixed(over), MixedModel(over)
            for word, h in deeds:
                house.deed(word, h)
                model.deed(word, h)
            yield over, house, model

    def test_as_told_once_more(self):
        seen = {}
        for over, deeds in runs(121, 150, 80):
            house, model = Mixed(over), MixedModel(over)
            for word, h in deeds:
                told = house.deed(word, h)
                self.assertIs(told, model.deed(word, h))
                seen[(word, told)] = seen.get((word, told), 0) + 1
                for hand in model.side:
                    self.assertEqual(all_of(house)[0][hand], (model.side[hand], (model.row[hand], model.boxes[hand]),
                                                              model.told[hand], model.count(hand)))
                self.assertEqual(all_of(house)[1], model.letters)
        self.assertEqual(len(seen), 6)
        self.assertGreater(min(seen.values()), 100)

    def test_each_box_and_letter_has_its_kind(self):
        for over, deeds in runs(122, 100):
            house = Mixed(over)
            makes = {1: over.first, 2: over.second}
            for word, h in deeds:
                house.deed(word, h)
                make = makes[house.make_of(h)]
                row, values = house.stand(h)
                self.assertEqual(sorted(values), sorted(x for x, _ in hand_of(make, h)[1]))
                self.assertLess(row, len(hand_of(make, h)[2]))
                self.assertTrue(all(is_of(make[0], kind, values[x]) for x, kind in hand_of(make, h)[1]))
                self.assertTrue(all(is_of(make[0], "num", told) for told in house.told(h)))
                for number, make in makes.items():
                    for c, _, _, kind in make[1]:
                        self.assertTrue(all(is_of(make[0], kind, letter) for side, letter in house.letters(c)
                                            if side == number))

    def test_each_hand_tells_and_sends_what_it_would_alone(self):
        changed = 0
        for over, house, model in self.both(123, 180):
            for hand in model.side:
                changed += self.check_alone(over, house, model, hand)
        self.assertGreater(changed, 60)

    def check_alone(self, over, house, model, h):
        """Whether a hand is changed and did rows since; it stands, told and sent as the lone ones do in turn."""
        lone = self.lone(over.first, h, model, 1, None)
        told = lone.told()
        sent = {c: [(1, value) for value in each] for c, each in lone.sent().items()}
        if house.make_of(h) == 2:
            lone = self.lone(over.second, h, model, 2, brought(over, h, lone.stand()))
            told = told + lone.told()
            sent = {c: each + [(2, value) for value in lone.sent()[c]] for c, each in sent.items()}
        self.assertEqual((house.stand(h), house.told(h)), (lone.stand(), told))
        own = {c: [(side, value) for side, name, value in model.sent[h] if name == c] for c in sent}
        self.assertEqual(own, sent)
        for c, each in sent.items():
            self.assertEqual(house.letters(c), each[len(each) - len(house.letters(c)):])
        return house.make_of(h) == 2 and lone.count() > 0

    def lone(self, make, h, model, side, stand):
        taken = {channel[0]: [value for number, c, value in model.took[h] if (number, c) == (side, channel[0])]
                 for channel in make[1]}
        lone = Lone(make, h, taken, stand)
        for _ in range(model.count(h, side)):
            self.assertIs(lone.step(), True)
        self.assertEqual([c for c, each in lone.left().items() if each], [])
        return lone

    def test_no_mixture(self):
        seen = 0
        for over, house, model in self.both(124, 300):
            if all(side == 2 for side in model.side.values()):
                seen += model.count(list(model.side)[0], 2) > 0
                self.check_whole(over, house, model)
        self.assertGreater(seen, 20)

    def check_whole(self, over, house, model):
        """All changed: as the first make's rows alone, all brought over at once, then the second make's."""
        plain = Plain(over.first)
        hands = list(model.side)
        rows = [each[1] for each in model.done if each[0] == "step" and each[2] == 1]
        self.assertEqual(plain.weave(rows), len(rows))
        stands = {h: brought(over, h, plain.stand(h)) for h in hands}
        letters = {channel[0]: [letter_over(over, channel[0], letter) for letter in plain.letters(channel[0])]
                   for channel in over.first[1]}
        whole = plain_at(over.second, stands, letters, {h: plain.told(h) for h in hands},
                         {h: plain.count(h) for h in hands})
        rows = [each[1] for each in model.done if each[0] == "step" and each[2] == 2]
        self.assertEqual(whole.weave(rows), len(rows))
        for h in hands:
            self.assertEqual((house.stand(h), house.told(h), house.count(h)),
                             (whole.stand(h), whole.told(h), whole.count(h)))
        for c in letters:
            own = [value if side == 2 else letter_over(over, c, value) for side, value in house.letters(c)]
            self.assertEqual(own, whole.letters(c))

    def test_a_make_to_itself_is_but_that_make(self):
        # Where nothing is turned into another thing, changing over is not seen from without.
        source = random.Random(125)
        for make in [PAIR, SELF] + [right_make(source) for _ in range(60)]:
            over = Over(make, make, {}, {})
            self.assertEqual(over.lacking, ([], []))
            house = Mixed(over)
            plain = Plain(make)
            for h in stirred(source, make, 60):
                house.change(h)
                self.assertIs(house.step(h), plain.step(h))
            hands, letters = all_of(house)
            self.assertEqual(({h: each[1:] for h, each in hands.items()},
                              {c: [value for _, value in each] for c, each in letters.items()}), plain_all(plain))

    def test_two_orders_of_deeds_come_to_the_same(self):
        # Deeds of two hands that meet through no channel may change places.
        text = "channel c a a num\nchannel d b b num\nhand a\nbox n num\nsend c 1\ntake m c n\ntell n\ngo 0\n" \
               "hand b\nbox n num\nsend d 2\ntake m d n\ntell n\ngo 0"
        over = Over(read(text), read(text), {}, {})
        deeds = {"a": [("step", "a"), ("over", "a"), ("step", "a"), ("back", "a"), ("step", "a")],
                 "b": [("step", "b"), ("over", "b"), ("step", "b"), ("step", "b")]}
        houses = []
        for places in itertools.combinations(range(9), 5):
            left = {h: list(each) for h, each in deeds.items()}
            house = Mixed(over)
            for k in range(9):
                self.assertIs(house.deed(*left["a" if k in places else "b"].pop(0)), True)
            houses.append(house)
        self.assertTrue(all(same(houses[0], house) for house in houses))
