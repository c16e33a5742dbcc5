"""Journals: the numbers of a house, and behind them three numbers for each deed done since."""

from swapstride.codes import house_of
from swapstride.words import WIDE

# The words of deeds, in the order of their numbers.
WORDS = ("step", "over", "back")
# How many numbers a deed has.
LONG = 3


def entry_of(over, word, h, n):
    """The numbers of a deed ahead of which a journal has n deeds."""
    first = WORDS.index(word)
    second = [hand[0] for hand in over.first[2]].index(h)
    return [first, second, (first + 5 * second + 11 * n + 1) % WIDE]


def read_journal(over, numbers):
    """The house to which a journal leads, and how many deeds it has; what is behind its last right deed is left out."""
    size = numbers[0] if len(numbers) > 0 else 0
    house = house_of(over, numbers[:size])
    behind = numbers[size:]
    many = 0
    deed = deed_in(over, behind, many)
    while deed is not None:
        house.deed(deed[0], deed[1])
        many = many + 1
        deed = deed_in(over, behind, many)
    return (house, many)


def deed_in(over, behind, n):
    """The deed number n of the numbers behind a journal's begin, None where there is no right one."""
    numbers = behind[LONG * n:LONG * n + LONG]
    for word in WORDS:
        for hand in over.first[2]:
            if numbers == entry_of(over, word, hand[0], n):
                return (word, hand[0])
    return None
