"""All that the interface names is there, and what all of it has in common [1], [2]."""

import copy
import importlib
import inspect
import random
import unittest

from swapstride import codes, desk, histories, journal, kinds, looker, makes, overs, parted, patience, places, sealing
from swapstride import terms, told, turning, values, waits, ways, worth
from swapstride.bricks import term_of, term_text
from swapstride.kept import Kept
from swapstride.lone import Lone
from swapstride.mixed import Mixed, same
from swapstride.overs import Over
from swapstride.plain import Plain, plain_at
from swapstride.reader import read
from swapstride.words import is_name, is_number
from swapstride.writer import shown
from tests.test_mixed import all_of, runs
from tests.test_overs import fields_of
from tests.test_plain import all_of as plain_all
from tests.test_plain import dicts_of, stirred

# Each module's functions, with their arguments by their names.
FUNCTIONS = {
    "words": ["is_name text", "is_number text"],
    "bricks": ["term_text term", "term_of text"],
    "reader": ["read text"],
    "writer": ["shown make"],
    "kinds": ["look_kinds kinds", "sort_of kinds K", "parts_of kinds K", "size_of kinds kind"],
    "values": ["is_of kinds kind value", "nought kinds kind", "field kinds value f"],
    "terms": ["kind_of kinds term boxes", "nought_term kinds kind", "boxes_in term"],
    "worth": ["worth kinds term boxes"],
    "makes": ["ways_of rows", "hand_of make h", "channel_of make c", "mark_row make h l"],
    "looker": ["look make"],
    "plain": ["plain_at make stands letters told counts"],
    "ways": ["look_ways first second ways", "made_ways first second told", "goes_to ways kind"],
    "turning": ["turned first second ways kind value"],
    "places": ["look_place first second ways h l way", "made_places first second ways told"],
    "overs": ["brought over h stand", "letter_over over c value"],
    "mixed": ["same one other"],
    "sealing": ["sealed mixed", "whole_over over plain"],
    "codes": ["house_code mixed", "house_of over numbers"],
    "journal": ["entry_of over word h n", "read_journal over numbers"],
    "waits": ["waits mixed h", "is_stuck mixed", "chain mixed h"],
    "patience": ["late over h", "patience over h"],
    "parted": ["played over deeds", "counting over deeds", "parted over deeds", "put_right over deeds"],
    "histories": ["history over deeds h"],
    "told": ["read_told text", "told_shown ways places"],
    "desk": ["looked text", "over_told first second told", "played_text first second told deeds"],
}

# Each module's classes, with what they and their methods are handed, and their fields.
CLASSES = {
    "lone": {"Lone": ["__init__ make h letters stand", "step", "stand", "told", "sent", "left", "count"]},
    "plain": {"Plain": ["__init__ make", "step h", "stand h", "told h", "letters c", "count h", "weave hands",
                        "still"]},
    "overs": {"Over": ["__init__ first second told_ways told_places"]},
    "mixed": {"Mixed": ["__init__ over", "step h", "change h", "back h", "deed word h", "make_of h", "stand h",
                        "told h", "letters c", "count h"]},
    "kept": {"Kept": ["__init__ over", "ask word h", "pack", "stop", "step", "journal", "outside h", "torn", "code"]},
}

REFUSALS = ["BadText", "Twice", "NoName", "NoCount", "WrongKind", "Lacks", "NotOwn", "Falls", "TooBig", "NoFit",
            "NoCode"]


def module(name):
    return importlib.import_module(f"swapstride.{name}")


class Names(unittest.TestCase):
    def test_functions(self):
        for name, functions in FUNCTIONS.items():
            for each in functions:
                function, *handed = each.split()
                with self.subTest(module=name, function=function):
                    found = inspect.signature(getattr(module(name), function)).parameters
                    self.assertEqual(list(found), handed)
                    self.assertEqual([one.default for one in found.values()], [inspect.Parameter.empty] * len(handed))

    def test_classes(self):
        for name, classes in CLASSES.items():
            for own, methods in classes.items():
                for each in methods:
                    method, *handed = each.split()
                    with self.subTest(module=name, own=own, method=method):
                        found = inspect.signature(getattr(getattr(module(name), own), method)).parameters
                        self.assertEqual(list(found), ["self"] + handed)

    def test_a_lone_hand_needs_no_stand(self):
        self.assertIsNone(inspect.signature(Lone).parameters["stand"].default)

    def test_wide(self):
        self.assertEqual(module("words").WIDE, 2 ** 32)

    def test_fields(self):
        make = read("hand h\nend")
        over = Over(make, make, {}, {})
        self.assertEqual([getattr(over, each) for each in ["first", "second", "ways", "places", "lacking"]],
                         [make, make, {}, {}, ([], [])])
        self.assertIs(Mixed(over).over, over)

    def test_refusals(self):
        errors = module("errors")
        self.assertEqual(errors.SwapError.__bases__, (ValueError,))
        for name in REFUSALS:
            self.assertEqual(getattr(errors, name).__bases__, (errors.SwapError,))
        self.assertEqual(errors.BadText(3).at, 3)

    def test_no_other_refusals(self):
        own = [name for name, each in vars(module("errors")).items() if isinstance(each, type)]
        self.assertEqual(sorted(own), sorted(REFUSALS + ["SwapError"]))


def form_of(thing):
    """All that a thing is, with the order of its dicts, by what can be asked of objects."""
    if isinstance(thing, Mixed):
        return ("mixed", all_of(thing), codes.house_code(thing))
    if isinstance(thing, Plain):
        return ("plain", plain_all(thing))
    if isinstance(thing, Over):
        return ("over", form_of(fields_of(thing)))
    if isinstance(thing, dict):
        return ("dict", [(key, form_of(each)) for key, each in thing.items()])
    if isinstance(thing, (list, tuple)):
        return (type(thing).__name__, [form_of(each) for each in thing])
    return (type(thing).__name__, thing)


def spoil(thing):
    """Change all that can be changed in a thing, as an asker may."""
    if isinstance(thing, Mixed):
        for hand in thing.over.first[2]:
            for word in ["back", "over", "step", "step", "step"]:
                thing.deed(word, hand[0])
    elif isinstance(thing, Plain):
        thing.weave([hand[0] for hand in thing.make[2]] * 3)
    elif isinstance(thing, (list, tuple)):
        for each in thing:
            spoil(each)
    elif isinstance(thing, dict):
        for each in thing.values():
            spoil(each)
        thing[77] = 77
        for key in list(thing)[:1]:
            thing[key] = 7
    if isinstance(thing, list):
        thing.reverse()
        thing.append(77)
        thing[0] = 7


def calls_of_makes(source, over):
    """Functions with what they are handed, of the two makes of an over alone."""
    first, second = over.first, over.second
    hand = source.choice(first[2])
    kind = source.choice(first[0])
    term = terms.nought_term(first[0], kind[0])
    value = worth.worth(first[0], term, {})
    boxes = dict(hand[1])
    box = ("box", source.choice(hand[1])[0])
    noughts = {x: values.nought(first[0], each) for x, each in hand[1]}
    yield from [(is_name, "a"), (is_number, "1"), (term_text, term), (term_of, term_text(term)), (read, shown(first)),
                (shown, first), (kinds.look_kinds, first[0]), (kinds.sort_of, first[0], kind[0]),
                (kinds.parts_of, first[0], kind[0]), (kinds.size_of, first[0], kind[0]),
                (values.is_of, first[0], kind[0], value), (values.nought, first[0], kind[0]),
                (terms.kind_of, first[0], box, boxes), (terms.nought_term, first[0], kind[0]),
                (terms.boxes_in, term), (worth.worth, first[0], box, noughts), (makes.ways_of, hand[2]),
                (makes.hand_of, first, hand[0]), (makes.channel_of, first, first[1][0][0]),
                (makes.mark_row, first, hand[0], "a"), (looker.look, first), (desk.looked, shown(first)),
                (ways.look_ways, first, second, over.ways), (ways.made_ways, first, second, over.ways),
                (ways.made_ways, first, second, {}), (ways.goes_to, over.ways, kind[0]),
                (places.made_places, first, second, over.ways, over.places),
                (places.made_places, first, second, over.ways, {}), (told.told_shown, over.ways, over.places),
                (told.read_told, told.told_shown(over.ways, over.places)),
                (Over, first, second, over.ways, over.places),
                (desk.over_told, shown(first), shown(second), told.told_shown(over.ways, over.places))]
    for f, _ in kind[2] if kind[1] == "rec" else ():
        yield (values.field, first[0], value, f)
    if kind[0] in over.ways:
        yield (turning.turned, first, second, over.ways, kind[0], value)
    for (h, l), way in over.places.items():
        yield (places.look_place, first, second, over.ways, h, l, way)


def calls_of_houses(source, over, deeds):
    """Functions with what they are handed, of houses of an over."""
    house = parted.played(over, deeds)
    plain = Plain(over.first)
    plain.weave(stirred(source, over.first, 20))
    texts = [shown(over.first), shown(over.second), told.told_shown(over.ways, over.places)]
    words = " ".join(h + {"step": "", "over": "!", "back": "?"}[word] for word, h in deeds)
    numbers = codes.house_code(house)
    h = source.choice(over.first[2])[0]
    entries = journal.entry_of(over, "step", h, 0) + journal.entry_of(over, "over", h, 1) + [1, 2]
    yield from [(Mixed, over), (Plain, over.first), (plain_at, over.first, *dicts_of(plain)),
                (overs.brought, over, h, plain.stand(h)), (same, house, parted.played(over, deeds[:10])),
                (sealing.sealed, house), (sealing.whole_over, over, plain), (codes.house_code, house),
                (codes.house_of, over, numbers), (journal.entry_of, over, "back", h, 3),
                (journal.read_journal, over, numbers + entries), (waits.waits, house, h), (waits.is_stuck, house),
                (waits.chain, house, h), (patience.late, over, h), (patience.patience, over, h),
                (parted.played, over, deeds), (parted.counting, over, deeds), (parted.parted, over, deeds),
                (parted.put_right, over, deeds), (histories.history, over, deeds, h),
                (desk.played_text, *texts, words)]
    for c, _, _, kind in over.first[1]:
        yield (overs.letter_over, over, c, values.nought(over.first[0], kind))


class Own(unittest.TestCase):
    def ask(self, function, handed):
        """Ask twice; between, all that was told, and all that was handed in elsewhere, is changed."""
        before = form_of(handed)
        answer = function(*handed)
        kept = form_of(answer)
        self.assertEqual(form_of(handed), before)
        copies = copy.deepcopy(handed)
        other = function(*copies)
        self.assertEqual(form_of(other), kept)
        # An over is read alone.
        spoil([each for each in copies if not isinstance(each, Over)])
        self.assertEqual(form_of(other), kept)
        if not isinstance(answer, Over):
            spoil(answer)
        self.assertEqual(form_of(handed), before)
        self.assertEqual(form_of(function(*handed)), kept)

    def test_each_function(self):
        source = random.Random(261)
        seen = set()
        for over, deeds in runs(262, 22, 40):
            for function, *handed in [*calls_of_makes(source, over), *calls_of_houses(source, over, deeds)]:
                with self.subTest(function=function.__name__):
                    self.ask(function, handed)
                    seen.add(function.__name__)
        named = {each.split()[0] for functions in FUNCTIONS.values() for each in functions}
        self.assertEqual(named - seen, set())

    def test_lone_hands(self):
        for over, deeds in runs(263, 20, 40):
            for hand in over.first[2]:
                letters = histories.history(over, deeds, hand[0])[0]
                stand = Plain(over.first).stand(hand[0])
                one, other = Lone(over.first, hand[0], letters, stand), Lone(over.first, hand[0], dict(letters), None)
                before = form_of((letters, stand))
                other_letters, other_stand = copy.deepcopy((letters, stand))
                third = Lone(over.first, hand[0], other_letters, other_stand)
                spoil([other_letters, other_stand])
                for _ in range(30):
                    told_by = [(each.stand(), each.told(), each.sent(), each.left(), each.count())
                               for each in [one, other, third]]
                    self.assertEqual(told_by[0], told_by[1])
                    self.assertEqual(told_by[0], told_by[2])
                    spoil(told_by)
                    self.assertEqual(one.step(), other.step())
                    third.step()
                self.assertEqual(form_of((letters, stand)), before)

    def test_houses_and_kept_houses(self):
        for over, deeds in runs(264, 20, 30):
            kept, twin = Kept(over), Kept(over)
            for word, h in deeds:
                for each in [kept, twin]:
                    each.ask(word, h)
                for _ in range(4):
                    spoil([kept.journal(), kept.code(), *[kept.outside(hand[0]) for hand in over.first[2]]])
                    self.assertIs(kept.step(), twin.step())
                    self.assertEqual((kept.journal(), kept.code()), (twin.journal(), twin.code()))
                self.assertEqual([kept.outside(hand[0]) for hand in over.first[2]],
                                 [twin.outside(hand[0]) for hand in over.first[2]])
