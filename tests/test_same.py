"""Which houses of an over are the same [28], [2], [24], [25]."""

from swapstride.mixed import Mixed, same
from swapstride.overs import Over
from swapstride.reader import read
from swapstride.words import WIDE
from tests.test_mixed import FIRST, SECOND, Checks, all_of, do, new, old, runs, trio, twin_of

# A make over to itself, of which one may be changed at either of two places and stand alike behind it.
STAIR = read("""channel c a b num
channel g b a num
hand a
box n num
send c 0
take k g n
send c 0
go 1
hand b
box n num
box m num
send g 0
take x c n
take y c n
send g 0
tell 3
go 1""")

# Deeds that come to the same house of trio by other ways.
BY_OTHER_DEEDS = [
    ("feed*5 one*5 two*4", "feed*4 one two? one*3 two*3 two? feed one two"),
    ("feed*5 one! two!", "feed feed*4 two! one!"),
    ("feed*5 one*5 two", "feed*5 one*5 two! two two*2 two? two"),
    ("feed*5 one! one*5 two!", "two! feed*5 two? one! one one? two! one! one*5"),
    ("feed*5 one*5 two! two*3", "feed*5 one*4 two! two two? two! two*3 one")]

# Behind these deeds c has new(2, 9, 5) and e (1, 1) and (2, 5); each of the others is unlike that in one channel.
LETTERS = "feed*10 one*5 one! one*5 two two!"
OTHER_LETTERS = [
    ("c", []), ("c", [new(9, 9, 9)]), ("c", [new(2, 9, 5)] * 2), ("e", [(1, 1)]), ("e", [(1, 1), (1, 5)]),
    ("e", [(2, 1), (2, 5)]), ("e", [(2, 5), (1, 1)]), ("e", [(1, 1), (2, 6)]), ("d", [(1, 0)]), ("s", [(2, 0)])]

# Behind these deeds two may go back, having taken letters of both makes.
TAKEN = "feed*10 one*5 one! one*5 two! two*4"


def other_befores(stand, count, taken):
    """What going back of two behind TAKEN would need otherwise, each unlike that in one thing."""
    return [((1, stand[1]), count, taken), ((0, {**stand[1], "q": 1}), count, taken),
            ((0, {**stand[1], "p": ("pt", (0, 1))}), count, taken), (stand, 1, taken), (stand, WIDE, taken),
            (stand, count, {**taken, "e": []}), (stand, count, {**taken, "e": [(2, 1)]}),
            (stand, count, {**taken, "e": [(1, 2)]}), (stand, count, {**taken, "c": taken["c"][::-1]}),
            (stand, count, {"c": taken["c"][:1], "e": taken["e"]}),
            (stand, count, {"c": taken["c"], "e": taken["e"] * 2}), None]


class Same(Checks):
    def stair(self, text):
        house = Mixed(Over(STAIR, STAIR, {}, {}))
        self.done(house, text)
        return house

    def alike(self, one, other, told):
        """Whether they are the same, asked either way, with nothing changed by being asked."""
        before = (all_of(one), all_of(other))
        for _ in range(2):
            self.assertIs(same(one, other), told)
            self.assertIs(same(other, one), told)
            self.assertIs(same(one, one), True)
        self.assertEqual((all_of(one), all_of(other)), before)

    def test_by_other_deeds(self):
        for one, other in BY_OTHER_DEEDS:
            houses = [trio(), trio()]
            for house, text in zip(houses, [one, other]):
                do(house, text)
            self.assertEqual(all_of(houses[0]), all_of(houses[1]))
            self.alike(houses[0], houses[1], True)

    def test_of_two_overs_made_alike(self):
        self.alike(trio(), trio(), True)
        over = Over(FIRST, SECOND, {}, {})
        self.alike(Mixed(over), Mixed(over), True)

    def test_another_after_each_deed_that_does_a_thing(self):
        for over, deeds in runs(116, 30):
            house = Mixed(over)
            for word, h in deeds:
                twin = twin_of(house)
                self.alike(house, twin, True)
                if house.deed(word, h):
                    self.alike(house, twin, False)

    def test_only_in_one_thing(self):
        """Each by itself, put into a house by hand."""
        def pair():
            houses = [trio(), trio()]
            for house in houses:
                self.done(house, LETTERS)
            return houses
        one, other = pair()
        self.alike(one, other, True)
        self.letters(one, c=[new(2, 9, 5)], e=[(1, 1), (2, 5)])
        row, boxes = one.stands["feed"]
        for stand in [(row + 1, boxes), (row, {**boxes, "n": 77}), (row, {**boxes, "t": 0})]:
            one, other = pair()
            other.stands["feed"] = stand
            self.alike(one, other, False)
        for c, letters in OTHER_LETTERS + [("c", [(1, ("pt", (2, 9, 5)))])]:
            one, other = pair()
            other.between[c] = list(letters)
            self.alike(one, other, False)
        one, other = pair()
        other.tellings["two"].append(0)
        self.alike(one, other, False)
        one, other = pair()
        other.counts["two"] = other.counts["two"] + 1
        self.alike(one, other, False)
        one, other = pair()
        other.sides["feed"] = 2
        self.alike(one, other, False)

    def ladder(self, first, second):
        """Two houses in which a did six rows, changed over ahead of them or amid; rows by texts parted by bars."""
        text = ("channel c a b num\nchannel g b a num\nhand a\nbox n num\nbox m num\n{}\n"
                "hand b\nbox n num\nsend g 0\nsend g 0\ntake x c n\ntake y c n\ntell n\nend")
        over = Over(*[read(text.format(rows.replace(" | ", "\n"))) for rows in [first, second]], {}, {})
        one, other = Mixed(over), Mixed(over)
        self.done(one, "b*2 a! a*6")
        self.done(other, "b*2 a*3 a! a*3")
        return one, other

    def differ(self, houses, told):
        """What two houses tell of a's stand, what it told, its count, and the letters from it; the others are alike."""
        for house, each in zip(houses, told):
            found = (house.stand("a"), house.told("a"), house.count("a"), house.letters("c"))
            self.assertEqual(found, each)
            self.assertEqual((house.make_of("a"), all_of(house)[0]["b"], house.letters("g")),
                             (2, (1, (2, {"n": 0}), [], 2), []))
        self.alike(houses[0], houses[1], False)

    COUNTING = "take k g n | set m (+ m 1) | go 0"

    def test_only_in_a_stands_row(self):
        first = "take k g n | set m 0 | go 3 | take q g n | go 0"
        second = ("take k g n | tell 7 | take z g n | set n 0 | set n 0 | set n 0 | end | "
                  "take q g n | tell 7 | set n 0 | end")
        boxes = {"n": 0, "m": 0}
        self.differ(self.ladder(first, second), [((6, boxes), [7], 6, []), ((10, boxes), [7], 6, [])])

    def test_only_in_a_box(self):
        rows = "take k g n | tell 7 | go 3 | take z g n | set n 0 | go 3"
        self.differ(self.ladder(self.COUNTING, rows),
                    [((3, {"n": 0, "m": 0}), [7], 6, []), ((3, {"n": 0, "m": 1}), [7], 6, [])])

    def test_only_in_a_letter(self):
        rows = "take k g n | send c m | set m 0 | take z g n | set n 0 | go 3"
        stand = (3, {"n": 0, "m": 0})
        self.differ(self.ladder(self.COUNTING, rows), [(stand, [], 6, [(2, 0)]), (stand, [], 6, [(2, 1)])])

    def test_only_in_what_was_told(self):
        rows = "take k g n | tell m | set m 0 | take z g n | set n 0 | go 3"
        stand = (3, {"n": 0, "m": 0})
        self.differ(self.ladder(self.COUNTING, rows), [(stand, [0], 6, []), (stand, [1], 6, [])])

    def test_only_in_a_letters_make(self):
        rows = "take k g n | send c 5 | go 0"
        stand = (0, {"n": 0, "m": 0})
        self.differ(self.ladder(rows, rows), [(stand, [], 6, [(2, 5), (2, 5)]), (stand, [], 6, [(1, 5), (2, 5)])])

    def test_only_in_the_make_of_a_letter_taken_since(self):
        rows = "take k g n | send c 5 | go 0"
        one, other = self.ladder(rows, rows)
        for house in [one, other]:
            self.done(house, "b! b")
        self.assertEqual(all_of(one), all_of(other))
        self.alike(one, other, False)
        # Once it tells, what it took is of no account any more.
        for house in [one, other]:
            self.done(house, "b")
        self.alike(one, other, False)
        for house in [one, other]:
            self.done(house, "b")
        self.alike(one, other, True)

    def test_only_in_a_letter_taken_since(self):
        rows = "take k g n | send c m | set m 0 | take z g n | set n 0 | go 3"
        one, other = self.ladder(self.COUNTING, rows)
        for house in [one, other]:
            self.done(house, "b! b")
        self.assertEqual([house.stand("b") for house in [one, other]], [(3, {"n": 0}), (3, {"n": 1})])
        self.alike(one, other, False)

    def test_only_in_a_count(self):
        make = read("hand h\ngo 0")
        over = Over(make, make, {}, {})
        one, other = Mixed(over), Mixed(over)
        self.done(other, "h")
        self.assertEqual(one.stand("h"), other.stand("h"))
        self.alike(one, other, False)
        self.done(one, "h")
        self.alike(one, other, True)

    def test_only_in_the_stand_and_count_at_the_changing_over(self):
        rows = "take k g n | set m 0 | go 3 | take z g n | set n 0 | go 3"
        one, other = self.ladder(self.COUNTING, rows)
        self.differ([one, other], [((3, {"n": 0, "m": 0}), [], 6, [])] * 2)
        self.assertEqual(all_of(one), all_of(other))

    def test_what_going_back_needs(self):
        # b changed ahead of its first take, or behind it: all that is told is the same.
        one = self.stair("a b b! b")
        other = self.stair("a b b b!")
        self.assertEqual(all_of(one), all_of(other))
        self.alike(one, other, False)
        # Behind a sending nothing of it is left.
        for house in [one, other]:
            self.done(house, "a a b")
            self.assertIs(twin_of(house).back("b"), True)
        self.alike(one, other, False)
        for house in [one, other]:
            self.done(house, "b")
            self.assertIs(twin_of(house).back("b"), False)
        self.alike(one, other, True)

    def test_going_back_parts_them(self):
        one = self.stair("a b b! b")
        other = self.stair("a b b b!")
        for house in [one, other]:
            self.done(house, "b?")
        self.assertNotEqual(all_of(one), all_of(other))
        self.alike(one, other, False)
        self.done(one, "b")
        self.alike(one, other, True)

    def test_each_thing_that_going_back_needs(self):
        """Each by itself, put into a house by hand; all that is told stays the same."""
        def changed():
            house = trio()
            self.done(house, TAKEN)
            return house
        stand, count, taken = changed().befores["two"]
        self.assertEqual((stand, count), ((0, {"p": ("pt", (0, 0)), "q": 0}), 0))
        self.assertEqual(taken, {"c": [old(1, 1), new(2, 9, 5)], "e": [(1, 1)]})
        for other in other_befores(stand, count, taken):
            house = changed()
            house.befores["two"] = other
            self.assertEqual(all_of(house), all_of(changed()))
            self.alike(house, changed(), False)

    def test_an_elder_and_a_changed_hand_that_stand_alike(self):
        make = read("channel c h h num\nhand h\nbox n num\nsend c 1\ntake m c n\ngo 0")
        over = Over(make, make, {}, {})
        one, other = Mixed(over), Mixed(over)
        self.done(one, "h")
        self.done(other, "h h!")
        self.assertEqual((one.stand("h"), one.count("h")), (other.stand("h"), other.count("h")))
        self.alike(one, other, False)
