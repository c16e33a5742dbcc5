"""The whole promise [1], [3]: makes, houses, changing over, going back, stops and waiting, one beside the other."""

import random

from swapstride.codes import house_code, house_of
from swapstride.desk import looked, over_told, played_text
from swapstride.histories import history
from swapstride.kept import Kept
from swapstride.mixed import Mixed, same
from swapstride.overs import Over, brought
from swapstride.parted import counting, parted, played, put_right
from swapstride.patience import late, patience
from swapstride.plain import Plain
from swapstride.reader import read
from swapstride.sealing import sealed, whole_over
from swapstride.told import read_told, told_shown
from swapstride.values import is_of
from swapstride.waits import chain, is_stuck, waits
from swapstride.writer import shown
from tests.chance import MixedModel, right_over
from tests.test_mixed import Checks, all_of, runs, twin_of
from tests.test_parted import TRIO, deeds_of
from tests.test_plain import all_of as plain_all

SIGNS = {"step": "", "over": "!", "back": "?"}


def hands_of(over):
    return [hand[0] for hand in over.first[2]]


def text_of(deeds):
    return " ".join(h + SIGNS[word] for word, h in deeds)


def done_of(over, deeds):
    """The deeds that do a thing, going back among them."""
    house = Mixed(over)
    return [(word, h) for word, h in deeds if house.deed(word, h)]


class Base(Checks):
    def alike(self, one, other):
        self.assertEqual(all_of(one), all_of(other))
        self.assertIs(same(one, other), True)
        self.assertEqual(house_code(one), house_code(other))


class Texts(Base):
    def test_from_three_texts_over_the_desk_to_plays(self):
        source = random.Random(271)
        words = ["step"] * 6 + ["over"] * 3 + ["back"]
        changed, told = 0, 0
        for _ in range(100):
            first, second, ways, places = right_over(source)
            texts = [shown(first), shown(second), told_shown(ways, places)]
            self.assertEqual([looked(text) for text in texts[:2]], ["let by", "let by"])
            over = Over(read(texts[0]), read(texts[1]), *read_told(texts[2]))
            deeds = [(source.choice(words), source.choice(hands_of(over))) for _ in range(70)]
            model = MixedModel(Over(first, second, ways, places))
            for word, h in deeds:
                model.deed(word, h)
            rows = [[h, model.side[h], model.row[h], model.count(h), *model.told[h]] for h in hands_of(over)]
            found = played_text(*texts, text_of(deeds))
            self.assertEqual(found, "\n".join(" ".join(str(each) for each in row) for row in rows))
            # What counts, and the deeds put right, play alike.
            self.assertEqual(played_text(*texts, text_of(counting(over, deeds))), found)
            self.assertEqual(played_text(*texts, text_of(put_right(over, deeds))), found)
            changed += sum(side == 2 for side in model.side.values())
            told += sum(len(each) for each in model.told.values())
        self.assertGreater(changed, 40)
        self.assertGreater(told, 100)

    def test_where_the_desk_tells_a_way_a_hand_may_change(self):
        """A row of a place at the desk, and a hand that stands there."""
        seen = {True: 0, False: 0}
        for over, deeds in runs(272, 60, 60):
            texts = [shown(over.first), shown(over.second), told_shown(over.ways, over.places)]
            rows = [row.split(" ") for row in over_told(*texts).split("\n")]
            marks = {(row[0], row[1]): row[2] for row in rows if len(row) == 3}
            house = Mixed(over)
            for word, h in deeds:
                house.deed(word, h)
                own = [each[2] for each in over.first[2] if each[0] == h][0]
                if house.make_of(h) == 2:
                    continue
                row = own[house.stand(h)[0]]
                may = row[0] == "take" and marks[(h, row[1])] != "-"
                seen[may] += 1
                twin = twin_of(house)
                self.assertIs(twin.change(h), may)
                if may:
                    rows = [each[2] for each in over.second[2] if each[0] == h][0]
                    self.assertEqual(rows[twin.stand(h)[0]][:2], ("take", marks[(h, row[1])]))
        self.assertGreater(min(seen.values()), 200)


class Orders(Base):
    def woven_anew(self, source, over, deeds):
        """Deeds that each do a thing, each hand's in their order, woven anew by chance."""
        left = {h: [deed for deed in deeds if deed[1] == h] for h in hands_of(over)}
        house = Mixed(over)
        order = []
        for _ in range(100 * len(deeds) + 1):
            able = [h for h in left if left[h]]
            if not able:
                return house, order
            h = source.choice(able)
            if house.deed(*left[h][0]):
                order.append(left[h].pop(0))
        self.fail("no hand can go on")

    def test_any_order_of_deeds_that_each_hand_does_alike(self):
        source = random.Random(273)
        moved = 0
        for over, deeds in runs(274, 120, 60):
            for own in [counting(over, deeds), done_of(over, deeds)]:
                for _ in range(2):
                    house, order = self.woven_anew(source, over, own)
                    self.alike(house, played(over, deeds))
                    self.assertEqual(sorted(order), sorted(own))
                    moved += order != own
        self.assertGreater(moved, 200)

    def test_in_each_order_each_hand_takes_alike(self):
        source = random.Random(275)
        for over, deeds in runs(276, 40, 60):
            house, order = self.woven_anew(source, over, done_of(over, deeds))
            for h in hands_of(over):
                self.assertEqual(history(over, order, h), history(over, deeds, h))
                for mine, own in zip(parted(over, order), parted(over, deeds)):
                    self.assertEqual(mine.count(h), own.count(h))

    def test_changed_over_later_by_the_same_rows(self):
        """Each hand's changing over put off as far as the next thing that it does: the house is the same."""
        for over, deeds in runs(277, 60, 60):
            own = counting(over, deeds)
            for k in range(len(own) - 1, -1, -1):
                if own[k][0] == "over":
                    onward = [at for at in range(k + 1, len(own)) if own[at][1] == own[k][1]]
                    at = onward[0] if onward else len(own)
                    own = own[:k] + own[k + 1:at] + [own[k]] + own[at:]
            self.alike(played(over, own), played(over, deeds))


class Cut(Base):
    def check_cut(self, over, deeds):
        """The cut of deeds between the first make and the second; whether all are changed."""
        house = played(over, deeds)
        first, changed, second = parted(over, deeds)
        plain = Plain(over.first)
        self.assertEqual(plain.weave(first), len(first))
        for h in hands_of(over):
            self.assertIs(house.make_of(h) == 2, h in changed)
            if h in changed:
                self.assertIsNotNone(brought(over, h, plain.stand(h)))
            else:
                self.assertNotIn(h, second)
                self.assertEqual((house.stand(h), house.told(h), house.count(h)),
                                 (plain.stand(h), plain.told(h), plain.count(h)))
        self.assertEqual(len(set(changed)), len(changed))
        if len(changed) < len(hands_of(over)):
            self.assertIsNone(sealed(house))
            return False
        whole = whole_over(over, plain)
        self.assertEqual(whole.weave(second), len(second))
        self.assertEqual(plain_all(whole), plain_all(sealed(house)))
        return True

    def test_at_every_moment(self):
        seen = {True: 0, False: 0}
        for over, deeds in runs(278, 80, 50):
            for many in range(len(deeds) + 1):
                seen[self.check_cut(over, deeds[:many])] += 1
        self.assertGreater(min(seen.values()), 200)

    def test_at_every_moment_of_a_run_to_the_end(self):
        """Of trio: by the first make alone, hand by hand over, then by the second."""
        text = "feed*15 one*5 two*4 one*3 one*2 one! one*5 two! two*3 feed two? feed! two! two*6 feed*5 one*5 two"
        deeds = deeds_of(text)
        told = [self.check_cut(TRIO, deeds[:many]) for many in range(len(deeds) + 1)]
        self.assertEqual(told.count(True), 18)
        self.assertEqual(told, sorted(told))

    def test_each_box_and_letter_has_its_kind_at_the_cut(self):
        for over, deeds in runs(279, 30, 50):
            plain = sealed(played(over, deeds))
            if plain is not None:
                for h, boxes, _ in over.second[2]:
                    values = plain.stand(h)[1]
                    self.assertTrue(all(is_of(over.second[0], kind, values[x]) for x, kind in boxes))
                for c, _, _, kind in over.second[1]:
                    self.assertTrue(all(is_of(over.second[0], kind, letter) for letter in plain.letters(c)))


class Waiting(Base):
    def check(self, house):
        """Who waits, and whether all is stuck, by what deeds do; the word of each chain where it is."""
        over = house.over
        hands = hands_of(over)
        able = [h for h in hands if twin_of(house).step(h)]
        self.assertEqual([h for h in hands if waits(house, h) == ("goes",)], able)
        stuck = not able and not any(twin_of(house).change(h) for h in hands)
        self.assertIs(is_stuck(house), stuck)
        if not stuck:
            self.assertEqual([chain(house, h) for h in hands], [None] * len(hands))
            return []
        return [self.check_chain(house, h) for h in hands]

    def check_chain(self, house, h):
        """A chain of a stuck house, by how each of its hands waits."""
        word, hands = chain(house, h)
        self.assertEqual(len(set(hands)), len(hands))
        onward = [waits(house, each) for each in hands]
        self.assertTrue(all(each[0] == "letter" for each in onward[:-1]))
        self.assertEqual([each[2] for each in onward[:-1]], hands[1:])
        if word == "ring":
            self.assertEqual((onward[-1][0], onward[-1][2]), ("letter", hands[0]))
            walk = [h]
            while walk[-1] != hands[0]:
                walk.append(waits(house, walk[-1])[2])
                self.assertLess(len(walk), 9)
        else:
            self.assertEqual((hands[0], onward[-1][0]), (h, word))
        return word

    def test_while_it_is_changed_over(self):
        """Deeds of chance, then each hand does all that it can and is changed over one by one."""
        source = random.Random(280)
        seen = {}
        for over, deeds in runs(281, 120, 25):
            house = Mixed(over)
            hands = hands_of(over)
            more = ["step"] * 40 + ["over"] * 10 + ["step"] * 40
            for word, h in deeds + [(word, source.choice(hands)) for word in more]:
                house.deed(word, h)
                sides = sorted({house.make_of(each) for each in hands})
                for word in self.check(house) or ["none"]:
                    seen[(word, *sides)] = seen.get((word, *sides), 0) + 1
        for key in [("none", 1), ("none", 1, 2), ("none", 2), ("ended", 1, 2), ("ended", 2), ("ring", 1, 2),
                    ("ring", 2)]:
            self.assertGreater(seen.get(key, 0), 10, key)

    def test_by_other_deeds_it_waits_alike(self):
        for over, deeds in runs(282, 60, 60):
            house, other = played(over, deeds), played(over, put_right(over, deeds))
            for h in hands_of(over):
                self.assertEqual(waits(other, h), waits(house, h))
                self.assertEqual(chain(other, h), chain(house, h))

    def test_stuck_while_one_is_elder_until_it_goes_back(self):
        """A changed hand sent what an elder one can't take, which has no place to change at."""
        text = "channel c a b num\nchannel d b a num\n"
        text += "hand a\nbox n num\ntake k d n\nsend c {}\ngo 0\nhand b\nbox n num\nsend d {}\ntake {} c n\ngo 0"
        first, second = read(text.format(5, 1, "m")), read(text.format(6, 2, "o"))
        over = Over(first, second, {}, {})
        house = played(over, deeds_of("b a! a*3"))
        self.assertEqual((waits(house, "a"), waits(house, "b")), (("letter", "d", "b"), ("change", "c", "a")))
        self.assertIs(is_stuck(house), True)
        self.assertEqual((chain(house, "a"), chain(house, "b")), (("change", ["a", "b"]), ("change", ["b"])))
        self.assertEqual(sorted(late(over, "b")), [0, 1, 2])
        self.assertEqual(patience(over, "a"), 2)
        # Ahead of its sending it may go back, and the house goes on by the first make.
        house = played(over, deeds_of("b a! a a? a*3 b*3 a"))
        self.assertEqual((house.count("a"), house.count("b"), house.letters("d")), (4, 4, []))
        self.assertIs(is_stuck(house), False)

    def test_a_house_that_is_not_late_comes_to_be_changed(self):
        """Where no hand may be late, each is changed, has ended, or waits, within as many rows as its patience."""
        seen = 0
        for over, deeds in runs(283, 200, 30):
            hands = hands_of(over)
            if any(late(over, h) for h in hands):
                continue
            house = played(over, [(word, h) for word, h in deeds if word == "step"])
            for h in hands:
                for _ in range(patience(over, h)):
                    if not house.change(h):
                        house.step(h)
                house.change(h)
                self.assertTrue(house.make_of(h) == 2 or waits(house, h) != ("goes",))
                seen += house.make_of(h) == 2
        self.assertGreater(seen, 30)

    def test_one_that_goes_on_for_ever_is_told_to_be_late(self):
        """A hand that did more rows than it has without a place or an end came round: rows are told that lead so."""
        seen = 0
        for over, deeds in runs(284, 150, 0):
            house = Mixed(over)
            since = {h: 0 for h in hands_of(over)}
            for _ in range(100):
                for h, _, rows in over.first[2]:
                    rests = rows[house.stand(h)[0]] == ("end",) or brought(over, h, house.stand(h)) is not None
                    since[h] = 0 if rests else since[h] + house.step(h)
                    if rests:
                        house.step(h)
                    if since[h] > len(rows):
                        self.assertIsNotNone(late(over, h))
                        self.assertIsNone(patience(over, h))
                        seen += 1
        self.assertGreater(seen, 30)


class Stops(Base):
    def kept_through(self, source, over, deeds):
        """A house kept through stops and packings of chance, with the deeds that are whole."""
        kept = Kept(over)
        whole = []
        for deed in deeds:
            kept.ask(*deed)
            if source.randrange(6) == 0:
                kept.pack()
            small = source.choice([0, 1, 2, 3, 4, 4, 4, 4])
            for _ in range(small):
                kept.step()
            if small >= 3:
                whole.append(deed)
            if small < 4 or source.randrange(3) == 0:
                kept.stop()
            while kept.step():
                pass
        return kept, whole

    def test_nothing_is_lost_and_nothing_else_is_told(self):
        source = random.Random(285)
        seen = 0
        for over, deeds in runs(286, 100, 50):
            kept, whole = self.kept_through(source, over, deeds)
            house = played(over, whole)
            self.assertEqual(kept.code(), house_code(house))
            self.assertEqual([kept.outside(h) for h in hands_of(over)], [house.told(h) for h in hands_of(over)])
            self.assertIs(kept.torn(), False)
            # What is kept is the house of the deeds put right as well.
            self.assertEqual(kept.code(), house_code(played(over, put_right(over, whole))))
            again = house_of(over, kept.code())
            self.alike(again, house)
            for h in hands_of(over):
                self.assertEqual((waits(again, h), chain(again, h)), (waits(house, h), chain(house, h)))
            seen += sum(len(house.told(h)) for h in hands_of(over))
        self.assertGreater(seen, 50)

    def test_a_house_read_back_goes_on_alike(self):
        source = random.Random(287)
        for over, deeds in runs(288, 60, 60):
            at = source.randrange(len(deeds))
            house = house_of(over, house_code(played(over, deeds[:at])))
            for word, h in deeds[at:]:
                house.deed(word, h)
            self.alike(house, played(over, deeds))


class Backs(Base):
    def test_as_though_it_had_not_been(self):
        """Going back amid all else, at every moment at which it is done."""
        seen = 0
        for over, deeds in runs(289, 150, 60):
            house = Mixed(over)
            done = []
            for at, (word, h) in enumerate(deeds):
                if not house.deed(word, h):
                    continue
                done.append((word, h))
                if word == "back":
                    since = max(k for k, each in enumerate(done) if each == ("over", h))
                    left = done[:since] + [each for each in done[since:] if each[1] != h]
                    self.alike(played(over, left), house)
                    self.alike(played(over, left + deeds[at + 1:]), played(over, deeds))
                    seen += 1
        self.assertGreater(seen, 60)
