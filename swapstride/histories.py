"""The letters that a hand took, as elder and as changed."""

from swapstride.makes import channels_to
from swapstride.mixed import FIRST, SECOND, Mixed
from swapstride.parted import counting


def history(over, deeds, h):
    """For each channel to a hand the letters that it took as elder, then those as changed, by the deeds that count."""
    house = Mixed(over)
    taken = {FIRST: no_letters(over, h), SECOND: no_letters(over, h)}
    for word, hand in counting(over, deeds):
        if (word, hand) == ("step", h):
            note_letter(house, h, taken[house.make_of(h)])
        house.deed(word, hand)
    return (taken[FIRST], taken[SECOND])


def no_letters(over, h):
    """A list without letters for each channel to a hand."""
    return dict([(c, []) for c in channels_to(over.first, h)])


def note_letter(house, h, lists):
    """Put the letter that a hand will take by its next step, if it takes one, behind those of its channel."""
    row = house.row_of(h)
    if row[0] == "take":
        lists[row[2]].append(house.letter_for(h, row))
