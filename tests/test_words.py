"""Names and numbers [2], [7]."""

import unittest

from swapstride.words import WIDE, is_kind, is_name, is_number

STRANGE_SIGNS = [chr(code) for code in range(32, 127) if not chr(code).isalnum()] + ["\n", "\t", "\r", "\x00"]


class Wide(unittest.TestCase):
    def test_it_is_two_to_the_thirty_second(self):
        self.assertEqual(WIDE, 2 ** 32)
        self.assertIs(isinstance(WIDE, int), True)


class Names(unittest.TestCase):
    def agree(self, answer, texts):
        for text in texts:
            with self.subTest(text=text):
                self.assertIs(is_name(text), answer)
                self.assertIs(is_name(text), answer)

    def test_one_to_six_small_letters(self):
        self.agree(True, ["a", "z", "ab", "abc", "abcd", "abcde", "abcdef", "zzzzzz", "azazaz"])

    def test_each_small_letter(self):
        self.agree(True, "abcdefghijklmnopqrstuvwxyz")

    def test_none_and_seven_letters(self):
        self.agree(False, ["", "abcdefg", "aaaaaaa", "a" * 100])

    def test_num_and_it(self):
        self.agree(False, ["num", "it"])

    def test_words_near_num_and_it(self):
        self.agree(True, ["nu", "nums", "anum", "n", "i", "its", "bit", "ti", "numit", "itnum"])

    def test_words_of_the_texts(self):
        self.agree(True, ["rec", "alt", "hand", "box", "set", "send", "take", "tell", "go", "if", "end"])
        self.agree(True, ["get", "tag", "case", "op"])
        self.agree(False, ["channel"])

    def test_capital_letters(self):
        self.agree(False, ["abcdeF", "NUM", "It"])
        for letter in "ABCDEFGHIJKLMNOPQRSTUVWXYZ":
            self.agree(False, [letter, "a" + letter, letter + "a"])

    def test_figures(self):
        for figure in "0123456789":
            self.agree(False, [figure, "a" + figure, figure + "a"])

    def test_signs_that_are_no_letters(self):
        for sign in STRANGE_SIGNS:
            self.agree(False, [sign, "a" + sign, sign + "a", "a" + sign + "b"])

    def test_letters_of_other_scripts(self):
        self.agree(False, ["\u00e4", "a\u00df", "\u03b1", "\uff41"])

    def test_a_line_feed_behind(self):
        self.agree(False, ["a\n", "abcdef\n", "\na"])


class Numbers(unittest.TestCase):
    def agree(self, answer, texts):
        for text in texts:
            with self.subTest(text=text):
                self.assertIs(is_number(text), answer)
                self.assertIs(is_number(text), answer)

    def test_one_to_ten_figures(self):
        self.agree(True, [str(10 ** many) for many in range(10)])
        self.agree(True, ["0123456789"[k] for k in range(10)])
        self.agree(True, ["1234567890", "9876543210", "10", "100", "1000000001"])

    def test_none_and_eleven_figures(self):
        self.agree(False, ["", "10000000000", "12345678901", "9" * 100])

    def test_nought_alone(self):
        self.agree(True, ["0"])

    def test_noughts_ahead(self):
        self.agree(False, ["00", "01", "007", "0000000000", "0123456789", "00000000000"])

    def test_wide_and_more(self):
        self.agree(True, ["4294967295", "4294967296", "4294967297", "9999999999"])

    def test_signs_that_are_no_figures(self):
        for sign in STRANGE_SIGNS:
            self.agree(False, [sign, "1" + sign, sign + "1", "1" + sign + "1"])

    def test_letters(self):
        self.agree(False, ["1e3", "0x1", "0b1", "1_0"])
        for letter in "abcdefghijklmnopqrstuvwxyzABCDEFGHIJKLMNOPQRSTUVWXYZ":
            self.agree(False, [letter, "1" + letter, letter + "1"])

    def test_figures_of_other_scripts(self):
        self.agree(False, ["\u00b2", "\u0661", "1\u0662", "\uff11"])

    def test_a_line_feed_behind(self):
        self.agree(False, ["1\n", "0\n", "\n1", "999999999\n"])


class Kinds(unittest.TestCase):
    def test_num_and_names(self):
        for text in ["num", "a", "rec", "abcdef"]:
            with self.subTest(text=text):
                self.assertIs(is_kind(text), True)

    def test_others(self):
        for text in ["", "it", "Num", "num ", "nums1", "abcdefg", "1", "num\n"]:
            with self.subTest(text=text):
                self.assertIs(is_kind(text), False)
