"""Houses of an over made into houses of its second make."""

from swapstride.mixed import FIRST, as_second
from swapstride.overs import brought, letter_over
from swapstride.plain import plain_at


def sealed(mixed):
    """The house of the second make that a house is where all hands are changed, else None."""
    over = mixed.over
    hands = [hand[0] for hand in over.first[2]]
    if any([mixed.make_of(h) == FIRST for h in hands]):
        return None
    stands = dict([(h, mixed.stand(h)) for h in hands])
    channels = [channel[0] for channel in over.first[1]]
    letters = dict([(c, [as_second(over, c, letter) for letter in mixed.letters(c)]) for c in channels])
    return second_house(over, mixed, stands, letters)


def whole_over(over, plain):
    """The house of the second make to which one of the first is brought over at once; None where a stand can't be."""
    stands = dict([(hand[0], brought(over, hand[0], plain.stand(hand[0]))) for hand in over.first[2]])
    if any([stand is None for stand in stands.values()]):
        return None
    channels = [channel[0] for channel in over.first[1]]
    letters = dict([(c, [letter_over(over, c, value) for value in plain.letters(c)]) for c in channels])
    return second_house(over, plain, stands, letters)


def second_house(over, house, stands, letters):
    """A house of the second make with those stands and letters, and what was told and counted in another house."""
    told = dict([(h, house.told(h)) for h in stands])
    counts = dict([(h, house.count(h)) for h in stands])
    return plain_at(over.second, stands, letters, told, counts)
