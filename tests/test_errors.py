"""The refusals, by the interface's part on them."""

import unittest

from swapstride import errors

PLAIN = ["Twice", "NoName", "NoCount", "WrongKind", "Lacks", "NotOwn", "Falls", "TooBig", "NoFit", "NoCode"]
ALL = ["BadText"] + PLAIN


def refusal(name):
    return getattr(errors, name)


class Classes(unittest.TestCase):
    def test_the_first_one_stands_under_value_error(self):
        self.assertEqual(errors.SwapError.__bases__, (ValueError,))

    def test_there_are_eleven_under_it_and_no_more(self):
        own = [name for name, thing in vars(errors).items() if isinstance(thing, type)]
        self.assertEqual(sorted(own), sorted(ALL + ["SwapError"]))
        self.assertEqual(len(set(ALL)), 11)

    def test_each_stands_straight_under_swap_error(self):
        for name in ALL:
            with self.subTest(name=name):
                self.assertEqual(refusal(name).__bases__, (errors.SwapError,))
                self.assertEqual(refusal(name).__name__, name)

    def test_none_stands_under_another(self):
        for name in ALL:
            for other in ALL:
                with self.subTest(name=name, other=other):
                    self.assertEqual(issubclass(refusal(name), refusal(other)), name == other)


class Made(unittest.TestCase):
    def test_each_but_bad_text_is_made_with_one_text(self):
        for name in PLAIN:
            with self.subTest(name=name):
                with self.assertRaises(errors.SwapError) as seen:
                    raise refusal(name)("some words")
                self.assertIs(type(seen.exception), refusal(name))
                self.assertEqual(str(seen.exception), "some words")

    def test_each_is_taken_as_value_error(self):
        for name in PLAIN:
            with self.subTest(name=name):
                with self.assertRaises(ValueError):
                    raise refusal(name)("")

    def test_bad_text_has_its_row(self):
        for at in [0, 1, 7, 99999]:
            with self.subTest(at=at):
                with self.assertRaises(ValueError) as seen:
                    raise errors.BadText(at)
                self.assertIs(type(seen.exception), errors.BadText)
                self.assertEqual(seen.exception.at, at)

    def test_two_of_bad_text_have_rows_of_their_own(self):
        one = errors.BadText(3)
        other = errors.BadText(5)
        self.assertEqual((one.at, other.at), (3, 5))
