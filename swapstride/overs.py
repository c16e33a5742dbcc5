"""From one make to another: the ways of kinds and places, and what stands and letters become by them."""

from swapstride.errors import NoFit
from swapstride.makes import channel_of, hand_of, mark_row
from swapstride.places import look_place, made_places
from swapstride.strides import row_at
from swapstride.turning import turned, turned_boxes
from swapstride.ways import goes_to, look_ways, made_ways
from swapstride.worth import worth


class Over:
    """Two makes, with told ways of kinds and places and those by rules; lacking has kinds, then places, without any."""

    def __init__(self, first, second, told_ways, told_places):
        ways = made_ways(first, second, told_ways)
        look_ways(first, second, ways[0])
        look_fit(first, second, ways[0])
        for place, way in told_places.items():
            look_place(first, second, ways[0], place[0], place[1], way)
        places = made_places(first, second, ways[0], told_places)
        self.first = first
        self.second = second
        self.ways = ways[0]
        self.places = places[0]
        self.lacking = (ways[1], places[1])


def look_fit(first, second, ways):
    """Refuse makes of other hands or channels, or of a channel that doesn't go over to just the second make's."""
    if [hand[0] for hand in first[2]] != [hand[0] for hand in second[2]]:
        raise NoFit("not the same hands in the same order")
    if [channel[:3] for channel in first[1]] != [channel[:3] for channel in second[1]]:
        raise NoFit("not the same channels between the same hands in the same order")
    for one, other in zip(first[1], second[1]):
        if goes_to(ways, one[3]) != other[3]:
            c = one[0]
            raise NoFit(f"the kind of the channel {c} doesn't go over to the second make's")


def is_place(over, h, row):
    """Whether a row of a hand of the first make is a take whose place has a way, where it may be changed over."""
    return row[0] == "take" and (h, row[1]) in over.places


def brought(over, h, stand):
    """A stand of a hand of the first make brought over, None where it can't be."""
    row = row_at(over.first, h, stand)
    if not is_place(over, h, row):
        return None
    way = over.places[(h, row[1])]
    boxes = turned_boxes(over.first, over.second, over.ways, hand_of(over.first, h)[1], stand[1])
    values = dict([(x, worth(over.second[0], term, boxes)) for x, term in way[1]])
    return (mark_row(over.second, h, way[0]), values)


def letter_over(over, c, value):
    """A letter of the first make in a channel, turned."""
    return turned(over.first, over.second, over.ways, channel_of(over.first, c)[3], value)
