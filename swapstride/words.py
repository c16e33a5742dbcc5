"""The words of the texts: names, kinds and numbers."""

# 2 ** 32: numbers that are let by stay below it.
WIDE = 4294967296

LETTERS = "abcdefghijklmnopqrstuvwxyz"
FIGURES = "0123456789"
LONGEST_NAME = 6
LONGEST_NUMBER = 10
NO_NAMES = ("num", "it")


def is_name(text):
    """Whether a text is a name."""
    return is_made_of(text, LETTERS, LONGEST_NAME) and text not in NO_NAMES


def is_number(text):
    """Whether a text is a number by figures, be it WIDE or more."""
    # A nought ahead would give one number two texts.
    return is_made_of(text, FIGURES, LONGEST_NUMBER) and (text == "0" or text[0] != "0")


def is_kind(text):
    """Whether a text may stand for a kind."""
    return text == "num" or is_name(text)


def is_made_of(text, signs, most):
    """Whether a text has one sign to most of them, all among the signs told."""
    return 1 <= len(text) <= most and all([sign in signs for sign in text])
