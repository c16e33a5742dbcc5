"""The desk [2], [8], [12], [17], [20], [21], [23], [27], [39]."""

import itertools
import random
import unittest

from swapstride.desk import looked, over_told, played_text
from swapstride.errors import BadText, Lacks, NoFit, NoName, SwapError, WrongKind
from swapstride.looker import look
from swapstride.parted import played
from swapstride.told import told_shown
from swapstride.writer import shown
from tests.chance import MixedModel, right_make, right_over
from tests.test_looker import BAD_ROWS, BASE, row_of
from tests.test_mixed import FIRST, SECOND, runs
from tests.test_overs import BAD_PLACES, BAD_SECONDS, BAD_WAYS, PLACES
from tests.test_parted import TRIO, deeds_of
from tests.test_places import FIRST as ONE
from tests.test_places import SECOND as OTHER
from tests.test_places import WAYS
from tests.test_reader import NO_ROWS
from tests.test_told import NO_ROWS as NO_TOLD_ROWS

# Texts of makes by the words of their refusals.
REFUSED = {
    "Twice": ["rec k\nrec k", "rec k a num a num", "hand h\nend\nhand h\nend", "hand h\nbox a num\nbox a num\nend",
              "channel c h h num\nchannel c h h num\nhand h\nend",
              "channel c h h num\nhand h\nbox n num\ntake m c n\ntake m c n\nend",
              "alt w a num\nhand h\nbox n num\ntell (case (tag w a 1) (a n 1))\nend"],
    "NoName": ["rec k a j", "rec k a k", "channel c h h num", "channel c h g num\nhand h\nend", "hand h\nbox a k\nend",
               "channel c h h k\nhand h\nend", "hand h\nset a 1\nend", "hand h\ntell a\nend", "hand h\nsend c 1\nend",
               "hand h\nbox n num\ntake m c n\nend"],
    "NoCount": ["rec k\nhand h\nbox k k\nset k (rec k 1)\nend", "rec k a num\nhand h\nbox k k\nset k (rec k)\nend"],
    "WrongKind": ["rec k\nhand h\nbox k k\nset k 1\nend", "rec k\nhand h\ntell (rec k)\nend",
                  "hand h\ntell 4294967296\nend", "rec k\nchannel c h h k\nhand h\nsend c 1\nend",
                  "rec k\nhand h\nif (rec k) 0\nend", "rec k\nchannel c h h k\nhand h\nbox n num\ntake m c n\nend"],
    "Lacks": ["alt w a num b num\nhand h\ntell (case (tag w a 1) (a x 1))\nend"],
    "NotOwn": ["channel c g h num\nhand h\nsend c 1\nend\nhand g\nend",
               "channel c h g num\nhand h\nbox n num\ntake m c n\nend\nhand g\nend"],
    "Falls": ["hand h", "hand h\nbox a num", "hand h\ngo 1", "hand h\ntell 1", "hand h\nif 1 0", "hand h\nif 1 7\nend",
              "hand h\nend\nhand g", "hand h\ngo 9999999999\nend"],
    "TooBig": ["rec a a num b num c num d num\nrec b a a b a c a d a\nrec c a b b a c a",
               "alt a a num b num\nrec b a a b a c a d a\nrec c a b b b c b d b"],
}


class Desk(unittest.TestCase):
    def tells(self, text, function, *handed):
        for _ in range(2):
            told = function(*handed)
            self.assertIs(type(told), str)
            self.assertEqual(told, text)

    def refused(self, refusal, function, *handed):
        with self.subTest(handed=handed):
            for _ in range(2):
                with self.assertRaises(SwapError) as seen:
                    function(*handed)
                self.assertIs(type(seen.exception), refusal)
            return seen.exception


class Looked(Desk):
    def test_let_by(self):
        for text in ["", "rec k", "hand h\nend", "hand h\ngo 0", shown(BASE), shown(FIRST), shown(SECOND)]:
            self.tells("let by", looked, text)

    def test_makes_of_chance_let_by(self):
        source = random.Random(251)
        for _ in range(30):
            self.tells("let by", looked, shown(right_make(source)))

    def test_each_refusal_by_its_word(self):
        for word, texts in REFUSED.items():
            for text in texts:
                with self.subTest(text=text):
                    self.tells(word, looked, text)

    def test_by_what_the_looker_refuses(self):
        for refusal, rows in BAD_ROWS.items():
            for text in rows:
                name, boxes, own = BASE[2][0]
                make = (BASE[0], BASE[1], ((name, boxes, (row_of(text),) + own),) + BASE[2][1:])
                with self.assertRaises(refusal):
                    look(make)
                self.tells(refusal.__name__, looked, shown(make))

    def test_all_words_that_the_looker_has(self):
        self.assertEqual(sorted(REFUSED), sorted(["Twice", "NoName", "NoCount", "WrongKind", "Lacks", "NotOwn", "Falls",
                                                  "TooBig"]))

    def test_a_text_that_is_none(self):
        for row in NO_ROWS:
            if row != "":
                self.assertEqual(self.refused(BadText, looked, row).at, 0)
            self.assertEqual(self.refused(BadText, looked, f"hand h\nend\n{row}").at, 2)
        self.assertEqual(self.refused(BadText, looked, "let by").at, 0)

    def test_a_text_that_is_none_of_a_make_that_would_be_refused(self):
        self.assertEqual(self.refused(BadText, looked, "rec k\nrec k\nnone").at, 2)

    def test_by_the_name_of_its_argument(self):
        self.assertEqual(looked(text="hand h"), "Falls")


class OverTold(Desk):
    def test_all_by_rules(self):
        self.tells("pt pt\nfeed f f\none k k\ntwo l l\ntwo j j", over_told, shown(FIRST), shown(SECOND), "")

    def test_by_rules_and_told_with_and_without_a_way(self):
        self.tells("pt spot\nold -\nflag num\none k k\none j -\ntwo l l\ntwo m i", over_told, shown(ONE), shown(OTHER),
                   told_shown(WAYS, PLACES))

    def test_told_in_the_place_of_rules(self):
        text = "rec a n num\nrec b n num\nchannel c h h num\nhand h\nbox n num\ntake l c n\ntake k c n\nend"
        self.tells("a a\nb b\nh l l\nh k k", over_told, text, text, "")
        self.tells("a b\nb num\nh l k\nh k k", over_told, text, text,
                   "way b num n\nway a b (rec b n)\nplace h l k\nwith n 0")

    def test_kinds_in_their_order_told_in_another(self):
        text = "rec c\nrec a\nrec b\nhand h\nend"
        self.tells("c a\na num\nb b", over_told, text, text, "way b b (rec b)\nway a num 1\nway c a (rec a)")

    def test_hands_in_order_and_marks_in_the_order_of_the_rows(self):
        head = "channel c h h num\nchannel d g g num\n"
        first = head + "hand h\nbox n num\ntake z c n\ntake a c n\ngo 0\nhand g\nbox n num\ntake m d n\ntake b d n\nend"
        second = head + "hand h\nbox n num\ntake a c n\ngo 0\nhand g\nbox n num\ntake b d n\ntake c d n\nend"
        self.tells("h z -\nh a a\ng m -\ng b b", over_told, first, second, "")
        self.tells("h z a\nh a a\ng m c\ng b b", over_told, first, second,
                   "place g m c\nwith n 1\nplace h z a\nwith n n")

    def test_makes_without_kinds(self):
        text = "channel c h h num\nhand h\nbox n num\ntake l c n\nend"
        self.tells("h l l", over_told, text, text, "")

    def test_makes_without_hands(self):
        self.tells("", over_told, "", "", "")
        self.tells("k k\nj -", over_told, "rec k\nrec j a num", "rec k\nalt j a num", "")

    def test_hands_without_takes(self):
        self.tells("", over_told, "hand h\nend\nhand g\ngo 0", "hand h\ngo 0\nhand g\nend", "")
        self.tells("k num", over_told, "rec k\nhand h\nend", "hand h\nend", "way k num 0")

    def test_a_way_of_an_alt_with_it(self):
        first = "alt w on num off num\nchannel c h h w\nhand h\nbox w w\ntake l c w\nend"
        second = "channel c h h num\nhand h\nbox w num\ntake l c w\nend"
        self.tells("w num\nh l l", over_told, first, second, "ways w num (on (+ it 1)) (off 0)")

    def test_by_the_names_of_its_arguments(self):
        self.assertEqual(over_told(first="rec k", second="rec k", told=""), "k k")

    def test_as_told_once_more(self):
        seen = {"-": 0, "way": 0}
        source = random.Random(252)
        for _ in range(120):
            first, second, ways, places = right_over(source)
            told = over_told(shown(first), shown(second), told_shown(ways, places))
            rows = [row.split(" ") for row in told.split("\n")]
            marks = [[h, row[1]] for h, _, each in first[2] for row in each if row[0] == "take"]
            self.assertEqual([row[:-1] for row in rows], [[kind[0]] for kind in first[0]] + marks)
            for row in rows:
                way = ways.get(row[0]) if len(row) == 2 else places.get((row[0], row[1]))
                if way:
                    self.assertEqual(row[-1], way[0])
                elif row[-1] != "-":
                    # By rules all keep their names.
                    self.assertEqual(row[-1], row[-2])
                seen["-" if row[-1] == "-" else "way"] += 1
        self.assertGreater(min(seen.values()), 50)


class OverRefused(Desk):
    def each(self, refusal, *texts):
        """Both functions refuse three texts."""
        told = self.refused(refusal, over_told, *texts)
        self.refused(refusal, played_text, *texts, "")
        return told

    def test_texts_that_are_none(self):
        good = [shown(ONE), shown(OTHER), told_shown(WAYS, {})]
        over_told(*good)
        for place in range(3):
            for bad, at in [("\n", 0), ("x", 0), (" ", 0), (good[place] + "\n", len(good[place].split("\n"))),
                            (good[place] + "\nnone", len(good[place].split("\n"))), (" " + good[place], 0)]:
                texts = good[:place] + [bad] + good[place + 1:]
                self.assertEqual(self.each(BadText, *texts).at, at)

    def test_rows_that_are_none(self):
        for row in NO_ROWS:
            if row != "":
                self.each(BadText, row, "", "")
                self.each(BadText, "", row, "")
        for row in NO_TOLD_ROWS:
            if row != "":
                self.each(BadText, "", "", row)

    def test_a_kind_told_twice(self):
        self.assertEqual(self.each(BadText, "rec k", "rec k", "way k k (rec k)\nway k k (rec k)").at, 1)

    def texts(self, second, ways, places):
        return shown(ONE), shown(second), told_shown(ways, places)

    def ways(self):
        """Ways that aren't right, but those that no text has."""
        return [(refusal, {**WAYS, **bad}) for refusal, bad in BAD_WAYS if all(how for _, how in bad.values())]

    def test_ways_that_are_not_right(self):
        self.assertGreater(len(self.ways()), 7)
        for refusal, ways in self.ways():
            self.each(refusal, *self.texts(OTHER, ways, {}))

    def test_makes_that_do_not_fit(self):
        for second in BAD_SECONDS:
            self.each(NoFit, *self.texts(second, WAYS, {}))
        self.each(NoFit, *self.texts(OTHER, {}, {}))

    def test_places_that_are_not_right(self):
        for refusal, places in BAD_PLACES:
            self.each(refusal, *self.texts(OTHER, WAYS, places))

    def test_each_in_its_order(self):
        for (refusal, ways), second, (_, places) in itertools.product(self.ways(), BAD_SECONDS + [OTHER], BAD_PLACES):
            self.refused(refusal, over_told, *self.texts(second, ways, places))
        for second, (_, places) in itertools.product(BAD_SECONDS, BAD_PLACES):
            self.refused(NoFit, over_told, *self.texts(second, WAYS, places))

    def test_a_form_for_the_other_sort(self):
        self.each(Lacks, "rec k", "rec k", "ways k k (t (rec k))")
        self.each(Lacks, "alt k t num", "alt k t num", "way k k (tag k t 1)")
        self.each(Lacks, "alt k t num u num", "", "ways k num (t 1)")

    def test_it_where_it_is_not_at_hand(self):
        self.each(NoName, "rec k a num", "", "way k num it")
        self.each(NoName, "rec j\nalt k t j", "", "ways k num (t it)")
        text = "channel c h h num\nhand h\nbox n num\ntake l c n\nend"
        self.each(NoName, text, text, "place h l l\nwith n it")

    def test_boxes_that_lack_or_are_too_many(self):
        text = "channel c h h num\nhand h\nbox n num\nbox m num\ntake l c n\nend"
        for rows in ["", "\nwith n 1", "\nwith m 1\nwith n 1", "\nwith n 1\nwith m 1\nwith m 1",
                     "\nwith n 1\nwith n 1"]:
            self.each(Lacks, text, text, "place h l l" + rows)
        self.each(WrongKind, text, text, "place h l l\nwith n 4294967296\nwith m 1")


class Played(Desk):
    def plays(self, deeds, text, told=""):
        self.tells(text, played_text, shown(FIRST), shown(SECOND), told, deeds)

    def test_no_deeds(self):
        self.plays("", "feed 1 0 0\none 1 0 0\ntwo 1 0 0")

    def test_steps(self):
        self.plays("feed", "feed 1 1 1\none 1 0 0\ntwo 1 0 0")
        self.plays("feed feed feed feed one", "feed 1 4 4\none 1 1 1\ntwo 1 0 0")

    def test_a_changing_over(self):
        self.plays("one!", "feed 1 0 0\none 2 0 0\ntwo 1 0 0")
        self.plays("feed feed! two!", "feed 2 0 1\none 1 0 0\ntwo 2 0 0")

    def test_a_going_back(self):
        self.plays("one! one?", "feed 1 0 0\none 1 0 0\ntwo 1 0 0")
        self.plays("feed feed feed feed one! one one one?", "feed 1 4 4\none 1 0 0\ntwo 1 0 0")

    def test_deeds_that_do_nothing(self):
        self.plays("one two feed! one? two? two", "feed 1 0 0\none 1 0 0\ntwo 1 0 0")

    def test_rows_of_hands_that_told_much(self):
        deeds = " ".join(["feed"] * 15 + ["one"] * 15 + ["two"] * 12)
        self.plays(deeds, "feed 1 0 15\none 1 0 15\ntwo 1 0 12 2 6 12")
        text = "hand h\nbox n num\ntell n\nset n (- n 1)\ngo 0\nhand g\nend"
        deeds = " ".join(["h"] * 31)
        told = " ".join(str(-k % 2 ** 32) for k in range(11))
        self.tells(f"h 1 1 31 {told}\ng 1 0 0", played_text, text, text, "", deeds)

    def test_what_was_told_over_both_makes(self):
        deeds = " ".join(["feed"] * 15 + ["one"] * 5 + ["two"] * 4 + ["one"] * 5 + ["one!"] + ["one"] * 5
                         + ["feed", "feed!", "two!"] + ["two"] * 6)
        self.plays(deeds, "feed 2 0 16\none 2 0 15\ntwo 2 6 10 2 30")

    def test_by_told_ways(self):
        text = "channel c h h num\nhand h\nbox n num\nsend c 4\ntake l c n\ntell n\nend"
        other = "channel c h h num\nhand h\nbox n num\nbox m num\nend\ntake k c n\ntell (+ n m)\ngo 1"
        told = "place h l k\nwith n 0\nwith m (+ n 7)"
        self.tells("h 2 3 3 11", played_text, text, other, told, "h h! h h")
        self.tells("h 1 3 3 4", played_text, text, other, "", "h h! h h")

    def test_rows_of_the_make_that_a_hand_follows(self):
        text = "channel c h h num\nhand h\nbox n num\ntake l c n\nend"
        other = "channel c h h num\nhand h\nbox n num\nend\nend\ntake l c n\nend"
        self.tells("h 1 0 0", played_text, text, other, "", "")
        self.tells("h 2 2 0", played_text, text, other, "", "h!")
        self.tells("h 1 0 0", played_text, text, other, "", "h! h?")

    def test_makes_without_hands(self):
        self.tells("", played_text, "", "", "", "")
        self.tells("", played_text, "rec k", "", "", "")

    def test_words_that_are_none(self):
        good = "feed feed! one!"
        for bad in ["!", "?", "feed!?", "feed?!", "feed!!", "feed??", "!feed", "?feed", "Feed", "feed.", "feed*2",
                    "feed,", "fee", "feeds", "zz", "zz!", "zz?", "1", "-", "one\n", "\none", "one\ntwo", "one\t", "c",
                    "pt", "step", "(feed)"]:
            for deeds in [bad, f"{bad} {good}", f"{good} {bad}", f"feed {bad} feed"]:
                self.refused(NoName, played_text, shown(FIRST), shown(SECOND), "", deeds)

    def test_blanks_too_many(self):
        for deeds in [" ", "  ", " feed", "feed ", "feed  feed", " feed feed", "feed feed ", "feed!  one",
                      "feed   one"]:
            self.refused(NoName, played_text, shown(FIRST), shown(SECOND), "", deeds)

    def test_words_of_makes_without_hands(self):
        for deeds in ["h", "!", " ", "h!"]:
            self.refused(NoName, played_text, "", "", "", deeds)

    def test_by_the_names_of_its_arguments(self):
        self.assertEqual(played_text(first="hand h\nend", second="hand h\nend", told="", deeds="h"), "h 1 0 0")

    def test_as_told_once_more(self):
        """Deeds of chance by texts, against the second telling."""
        for over, deeds in runs(253, 80, 70):
            model = MixedModel(over)
            for word, h in deeds:
                model.deed(word, h)
            rows = [" ".join(str(each) for each in [h, model.side[h], model.row[h], model.count(h), *model.told[h]])
                    for h in model.side]
            words = [h + {"step": "", "over": "!", "back": "?"}[word] for word, h in deeds]
            # All ways are told, be they told or by rules.
            told = told_shown(over.ways, over.places)
            self.tells("\n".join(rows), played_text, shown(over.first), shown(over.second), told, " ".join(words))

    def test_four_hundred_deeds(self):
        deeds = deeds_of("feed*5 one*5 two*4 " * 10 + "feed one! two! feed! " + "feed*10 one*10 two*6 " * 10)[:400]
        text = " ".join(h + {"step": "", "over": "!", "back": "?"}[word] for word, h in deeds)
        house = played(TRIO, deeds)
        rows = [" ".join(str(each) for each in [h, house.make_of(h), house.stand(h)[0], house.count(h), *house.told(h)])
                for h in ["feed", "one", "two"]]
        self.plays(text, "\n".join(rows))
