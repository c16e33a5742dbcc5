"""Hands that may be late, and how patient the others are [2], [3], [12], [21], [24], [34]."""

import copy
import itertools
import random
import unittest

from swapstride.bricks import term_of
from swapstride.looker import look
from swapstride.mixed import Mixed
from swapstride.overs import Over, brought
from swapstride.patience import late, patience
from swapstride.reader import read
from tests.chance import right_over
from tests.test_mixed import FIRST, SECOND
from tests.test_overs import fields_of
from tests.test_plain import stirred

HEAD = "channel c h h num\nhand h\nbox n num\n"


def over_of(rows, marks=""):
    """An over whose hand h has rows by a text parted by bars; of its takes those of the marks told have ways."""
    first = read(HEAD + rows.replace(" | ", "\n"))
    takes = [f"take {mark} c n\n" for mark in marks]
    return Over(first, read(HEAD + "".join(takes) + "end"), {}, {})


def doing(over, h):
    """The rows of a hand that are neither takes whose places have ways nor ends, each with all to which it leads."""
    rows = [rows for name, _, rows in over.first[2] if name == h][0]
    led = {}
    for k, row in enumerate(rows):
        if row[0] == "end" or row[0] == "take" and (h, row[1]) in over.places:
            continue
        led[k] = [row[1]] if row[0] == "go" else [row[2], k + 1] if row[0] == "if" else [k + 1]
    return led


def told_again(over, h):
    """The patience once more: after how many rows none is at a row that does a thing, None where some always are."""
    led = doing(over, h)
    able = set(led)
    many = 0
    while able and many <= 100:
        able = {way for k in able for way in led[k] if way in led}
        many += 1
    return None if able else many


def rings(over, h):
    """All rings of rows without a take that has a way, each from each of its rows: by going all ways."""
    led = doing(over, h)
    found = []
    walks = [[k] for k in led]
    while walks:
        walk = walks.pop()
        for way in led[walk[-1]]:
            if way == walk[0]:
                found.append(walk)
            elif way in led and way not in walk:
                walks.append(walk + [way])
    return found


def random_rows(source, many):
    """Rows of a hand by a text, of which some takes have marks that may get ways."""
    rows = []
    for k in range(many):
        form = source.choice(["set n 1", "tell n", "send c 1", "take", "take", "take", "take", "go", "if", "if", "end"])
        onward = source.randrange(k + 1, many) if k + 1 < many and source.randrange(4) else source.randrange(many)
        if k == many - 1 and form not in ("go", "end"):
            form = source.choice(["go", "end", "end", "end"])
        if form == "take":
            form = f"take {'abcdefghijklmnopqrstuvwxyz'[k]} c n"
        rows.append({"go": f"go {onward}", "if": f"if n {onward}"}.get(form, form))
    marks = [row.split()[1] for row in rows if row.startswith("take") and source.randrange(4)]
    return " | ".join(rows), marks


class Base(unittest.TestCase):
    def ring(self, over, h, ring):
        """A list told keeps all that is asked of it."""
        rows = [rows for name, _, rows in over.first[2] if name == h][0]
        self.assertIs(type(ring), list)
        self.assertTrue(ring)
        self.assertEqual([type(k) for k in ring], [int] * len(ring))
        self.assertTrue(all(0 <= k < len(rows) for k in ring))
        self.assertEqual(len(set(ring)), len(ring))
        led = doing(over, h)
        for k, onward in zip(ring, ring[1:] + ring[:1]):
            self.assertIn(k, led)
            self.assertIn(onward, led[k])

    def is_late(self, over, h="h"):
        before = copy.deepcopy(fields_of(over))
        told = late(over, h)
        self.ring(over, h, told)
        self.assertIsNone(patience(over, h))
        again = list(told)
        told.append(99)
        told.reverse()
        self.assertEqual(late(over, h), again)
        late(over, h).clear()
        self.assertEqual(late(over, h), again)
        self.assertEqual(fields_of(over), before)
        return again

    def waits(self, over, many, h="h"):
        before = copy.deepcopy(fields_of(over))
        for _ in range(2):
            self.assertIsNone(late(over, h))
            self.assertEqual(patience(over, h), many)
            self.assertIs(type(patience(over, h)), int)
        self.assertEqual(fields_of(over), before)


class Late(Base):
    def one_of(self, rows, marks, *rings):
        """The ring told is one of those, begun at any of its rows."""
        told = self.is_late(over_of(rows, marks))
        turned = [ring[k:] + ring[:k] for ring in rings for k in range(len(ring))]
        self.assertIn(told, turned)

    def test_rings_of_one_row(self):
        self.one_of("go 0", "", [0])
        self.one_of("tell 1 | go 1", "", [1])
        self.one_of("if n 0 | end", "", [0])
        self.one_of("take a c n | if n 1 | go 0", "a", [1])

    def test_rings_of_many_rows(self):
        self.one_of("set n 1 | go 0", "", [0, 1])
        self.one_of("set n 1 | tell n | send c n | go 0", "", [0, 1, 2, 3])
        self.one_of("go 3 | go 0 | go 1 | go 2", "", [0, 3, 2, 1])
        self.one_of("take a c n | set n 1 | tell n | go 1", "a", [1, 2, 3])
        self.one_of("set n 1 | " * 23 + "go 0", "", list(range(24)))
        self.one_of("take a c n | " + "set n 1 | " * 22 + "go 1", "a", list(range(1, 24)))

    def test_a_ring_through_a_take_without_a_way(self):
        self.one_of("take a c n | go 0", "", [0, 1])
        self.one_of("take a c n | tell n | go 0", "b", [0, 1, 2])
        self.one_of("take a c n | take b c n | go 1", "a", [1, 2])
        self.one_of("take a c n | take b c n | go 0", "", [0, 1, 2])

    def test_a_ring_through_a_take_whose_told_way_there_is_not(self):
        first = read(HEAD + "take a c n\ntake b c n\ngo 1")
        second = read(HEAD + "take a c n\nend")
        self.assertEqual(self.is_late(Over(first, second, {}, {})), [1, 2])
        told = {("h", "b"): ("a", (("n", term_of("0")),))}
        self.waits(Over(first, second, {}, told), 1)

    def test_a_ring_through_a_take_that_lacks_a_way_by_its_boxes(self):
        first = read("rec p x num\nchannel c h h num\nhand h\nbox n num\nbox p p\ntake a c n\ngo 0")
        second = read("channel c h h num\nhand h\nbox n num\nbox p num\ntake a c n\ngo 0")
        over = Over(first, second, {}, {})
        self.assertEqual(over.lacking, (["p"], [("h", "a")]))
        self.assertEqual(sorted(self.is_late(over)), [0, 1])
        self.waits(Over(first, second, {"p": ("num", term_of("x"))}, {}), 1)

    def test_a_ring_beside_one_through_a_take_with_a_way(self):
        self.one_of("take a c n | if n 0 | tell n | if n 0 | go 2", "a", [2, 3, 4])
        self.one_of("if n 3 | tell 1 | go 0 | take a c n | go 0", "a", [0, 1, 2])

    def test_rings_in_rows_that_no_step_comes_to(self):
        self.one_of("end | go 1", "", [1])
        self.one_of("end | set n 1 | go 1", "", [1, 2])
        self.one_of("take a c n | go 0 | tell 1 | take b c n | go 2", "a", [2, 3, 4])
        self.one_of("go 1 | go 3 | go 2 | end", "", [2])

    def test_rows_that_lead_to_a_ring_are_not_in_it(self):
        self.one_of("set n 1 | tell n | set n 2 | go 2", "", [2, 3])
        self.one_of("if n 5 | if n 6 | tell 1 | go 4 | go 2 | end | end", "", [2, 3, 4])

    def test_rows_behind_a_ring_are_not_in_it(self):
        self.one_of("set n 1 | if n 0 | set n 2 | end", "", [0, 1])
        self.one_of("set n 1 | if n 4 | tell 1 | go 0 | tell 2 | end", "", [0, 1, 2, 3])

    def test_one_of_several_rings(self):
        self.one_of("if n 0 | if n 1 | end", "", [0], [1])
        self.one_of("if n 2 | go 0 | tell 1 | if n 2 | go 0", "", [0, 1], [2, 3], [0, 2, 3, 4])
        self.one_of("if n 3 | if n 0 | go 0 | if n 1 | go 0", "", [0, 1], [0, 1, 2], [0, 3, 1], [0, 3, 4], [0, 3, 1, 2])

    def test_ifs_whose_two_ways_are_alike_or_meet(self):
        self.one_of("if n 1 | go 0", "", [0, 1])
        self.one_of("if n 1 | if n 2 | go 0", "", [0, 1, 2])
        self.one_of("if n 2 | set n 1 | go 0", "", [0, 2], [0, 1, 2])

    def test_ways_are_taken_whatever_the_terms_are(self):
        # By its terms alone it would never go round.
        self.one_of("if 0 0 | end", "", [0])
        self.one_of("if 1 2 | go 0 | end", "", [0, 1])

    def test_only_of_the_hand_asked(self):
        first = read("channel c h g num\nchannel d g h num\nhand h\ngo 0\nhand g\nbox n num\ntake a c n\ngo 0")
        over = Over(first, first, {}, {})
        self.assertEqual(self.is_late(over, "h"), [0])
        self.waits(over, 1, "g")

    def test_by_the_hands_own_places(self):
        # Both have a take of the mark, but the first make's g alone finds it in the second one.
        head = "channel c g h num\nchannel d h g num\nhand h\nbox n num\n"
        first = read(head + "take a c n\ngo 0\nhand g\nbox n num\ntake a d n\ngo 0")
        second = read(head + "take b c n\ngo 0\nhand g\nbox n num\ntake a d n\ngo 0")
        over = Over(first, second, {}, {})
        self.assertEqual(sorted(self.is_late(over, "h")), [0, 1])
        self.waits(over, 1, "g")

    def test_only_of_the_first_makes_rows(self):
        first = read(HEAD + "take a c n\ngo 0")
        self.waits(Over(first, read(HEAD + "take a c n\ngo 1"), {}, {}), 1)
        self.is_late(Over(read(HEAD + "take a c n\ngo 1"), first, {}, {}))

    def test_by_the_names_of_its_arguments(self):
        self.assertEqual(late(over=over_of("go 0"), h="h"), [0])
        self.assertIsNone(patience(over=over_of("go 0"), h="h"))
        self.assertEqual(patience(over=over_of("tell 1 | end"), h="h"), 1)


class Patience(Base):
    def test_ends_only(self):
        self.waits(over_of("end"), 0)
        self.waits(over_of("end | end | end"), 0)

    def test_takes_with_ways_only(self):
        # A make's last row leads on, so that ends or such takes alone are behind one another.
        self.waits(over_of("take a c n | end", "a"), 0)
        self.waits(over_of("take a c n | take b c n | take d c n | end", "abd"), 0)

    def test_a_take_without_a_way_is_a_row_done(self):
        self.waits(over_of("take a c n | end", ""), 1)
        self.waits(over_of("take a c n | take b c n | end", ""), 2)
        self.waits(over_of("take a c n | take b c n | end", "a"), 1)
        self.waits(over_of("take a c n | take b c n | end", "b"), 1)
        self.waits(over_of("take a c n | take b c n | take d c n | tell 1 | go 0", "a"), 4)

    def test_a_take_into_a_box_named_like_an_end(self):
        first = read("channel c h h num\nhand h\nbox end num\ntake end c end\ntake a c end\nend")
        self.waits(Over(first, read("channel c h h num\nhand h\nend"), {}, {}), 2)
        first = read("channel end h h num\nhand h\nbox end num\ntake end end end\ngo 0")
        self.assertEqual(sorted(self.is_late(Over(first, read("channel end h h num\nhand h\nend"), {}, {}))), [0, 1])
        self.waits(Over(first, first, {}, {}), 1)

    def test_each_other_row_is_one(self):
        for row in ["set n 1", "send c n", "tell n", "go 1", "if n 1"]:
            self.waits(over_of(f"{row} | end"), 1)
            self.waits(over_of(f"{row} | take a c n | end", "a"), 1)

    def test_round_through_a_take_with_a_way(self):
        self.waits(over_of("take a c n | go 0", "a"), 1)
        self.waits(over_of("take a c n | set n 1 | tell n | go 0", "a"), 3)
        self.waits(over_of("set n 1 | tell n | take a c n | send c n | go 0", "a"), 4)
        self.waits(over_of("take a c n | tell 1 | take b c n | tell 1 | tell 2 | go 0", "ab"), 3)

    def test_the_longer_of_two_ways(self):
        self.waits(over_of("if n 3 | tell 1 | tell 2 | end"), 3)
        self.waits(over_of("if n 2 | end | tell 1 | tell 2 | end"), 3)
        self.waits(over_of("if n 2 | take a c n | tell 1 | end", "a"), 2)
        self.waits(over_of("if n 2 | take a c n | tell 1 | end", ""), 3)

    def test_from_any_row(self):
        # The longest begins amid, behind a take at which the hand may be changed.
        self.waits(over_of("tell 1 | take a c n | tell 1 | tell 2 | tell 3 | end", "a"), 3)
        # It begins in rows that no step comes to.
        self.waits(over_of("end | tell 1 | tell 2 | end"), 2)
        self.waits(over_of("take a c n | go 0 | tell 1 | tell 2 | go 0", "a"), 3)

    def test_ifs_whose_two_ways_are_alike_or_meet(self):
        self.waits(over_of("if n 1 | end"), 1)
        self.waits(over_of("if n 2 | go 2 | end"), 2)
        self.waits(over_of("if n 1 | if n 2 | if n 3 | end"), 3)
        self.waits(over_of("if n 2 | tell 1 | take a c n | if n 0 | go 0", "a"), 4)

    def test_rows_out_of_their_order(self):
        self.waits(over_of("go 4 | end | go 1 | go 2 | go 3"), 4)
        self.waits(over_of("if n 4 | end | take a c n | go 2 | if n 3 | go 3", "a"), 4)

    def test_up_to_the_greatest_count(self):
        self.waits(over_of("set n 1 | " * 23 + "end"), 23)
        self.waits(over_of("set n 1 | " * 22 + "take a c n | end", "a"), 22)
        self.waits(over_of("take a c n | " + "tell n | " * 22 + "go 0", "a"), 23)
        takes = " | ".join(f"take {mark} c n" for mark in "abcdefghijklmnopqrstuvw")
        self.waits(over_of(takes + " | end"), 23)
        self.waits(over_of(takes + " | end", "l"), 11)
        self.waits(over_of(takes + " | end", "abcdefghijklmnopqrstuvw"), 0)

    def test_ifs_up_to_the_greatest_count(self):
        # As many walks as 2 ** 22: they aren't gone one by one.
        rows = [f"if n {min(k + 2, 23)}" for k in range(23)] + ["end"]
        self.waits(over_of(" | ".join(rows)), 23)
        self.waits(over_of(" | ".join(["take a c n"] + rows[1:23] + ["go 0"]), "a"), 23)
        rows[22] = "go 22"
        self.assertEqual(self.is_late(over_of(" | ".join(rows))), [22])


class Chance(Base):
    def test_small_hands_by_all_walks(self):
        source = random.Random(201)
        seen = {True: 0, False: 0}
        sizes = set()
        for _ in range(600):
            over = over_of(*random_rows(source, source.randint(1, 8)))
            self.assertIs(look(over.first), True)
            found = rings(over, "h")
            seen[found == []] += 1
            if found:
                told = self.is_late(over)
                self.assertIn(told, found)
                sizes.add(len(told))
                self.assertIsNone(told_again(over, "h"))
            else:
                self.waits(over, told_again(over, "h"))
        self.assertGreater(min(seen.values()), 100)
        self.assertGreater(len(sizes), 4)

    def test_hands_up_to_the_greatest_count(self):
        source = random.Random(202)
        seen = {True: 0, False: 0}
        for _ in range(300):
            over = over_of(*random_rows(source, source.randint(9, 24)))
            many = told_again(over, "h")
            seen[many is None] += 1
            if many is None:
                self.is_late(over)
            else:
                self.waits(over, many)
        self.assertGreater(min(seen.values()), 30)

    def test_all_hands_of_three_rows(self):
        forms = ["take a c n", "take b c n", "tell n", "end", *[f"go {k}" for k in range(3)],
                 *[f"if n {k}" for k in range(3)]]
        seen = 0
        for rows in itertools.product(forms, forms, ["end", "go 0", "go 1", "go 2"]):
            if rows[:2] in [("take a c n",) * 2, ("take b c n",) * 2]:
                continue
            over = over_of(" | ".join(rows), "a")
            many = told_again(over, "h")
            self.assertEqual(patience(over, "h"), many)
            if many is None:
                self.ring(over, "h", late(over, "h"))
                seen += 1
            else:
                self.assertIsNone(late(over, "h"))
        self.assertGreater(seen, 100)

    def overs(self, seed, many):
        source = random.Random(seed)
        yield source, Over(FIRST, SECOND, {}, {})
        for _ in range(many):
            yield source, Over(*right_over(source))

    def test_hands_of_overs(self):
        seen = {True: 0, False: 0}
        for source, over in self.overs(203, 250):
            for hand in over.first[2]:
                many = told_again(over, hand[0])
                seen[many is None] += 1
                if many is None:
                    self.is_late(over, hand[0])
                else:
                    self.waits(over, many, hand[0])
        self.assertGreater(min(seen.values()), 50)

    def test_who_is_patient_comes_to_a_place_or_an_end(self):
        """Of a hand that isn't late: since any moment, within as many rows as its patience, it stood there."""
        seen = 0
        for source, over in self.overs(204, 150):
            house = Mixed(over)
            bounds = {hand[0]: patience(over, hand[0]) for hand in over.first[2]}
            # For each hand how many rows it did since it stepped off such a place, that step left out.
            since = {h: 0 for h in bounds}
            for h in stirred(source, over.first, 150):
                rested = self.rests(house, h)
                since[h] = 0 if rested else since[h] + house.step(h)
                if rested:
                    house.step(h)
                if bounds[h] is not None and not self.rests(house, h):
                    # It is still to do a row, and may do but as many as its patience.
                    self.assertLess(since[h], bounds[h])
                    seen += 1
        self.assertGreater(seen, 500)

    def rests(self, house, h):
        rows = [rows for name, _, rows in house.over.first[2] if name == h][0]
        return rows[house.stand(h)[0]] == ("end",) or brought(house.over, h, house.stand(h)) is not None
