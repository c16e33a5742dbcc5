"""The desk: texts in, texts out."""

from swapstride.errors import Falls, Lacks, NoCount, NoName, NotOwn, TooBig, Twice, WrongKind
from swapstride.looker import look
from swapstride.makes import hand_of
from swapstride.overs import Over
from swapstride.parted import played
from swapstride.places import places_of
from swapstride.reader import read
from swapstride.told import read_told

# Stands for what a kind or a place goes over to where it lacks a way.
NO_WAY = "-"


def looked(text):
    """Whether the make that a text writes is let by, or the word of its refusal."""
    make = read(text)
    # No class tells its own word here, so each is taken by itself.
    try:
        look(make)
    except Twice:
        return "Twice"
    except NoName:
        return "NoName"
    except NoCount:
        return "NoCount"
    except WrongKind:
        return "WrongKind"
    except Lacks:
        return "Lacks"
    except NotOwn:
        return "NotOwn"
    except Falls:
        return "Falls"
    except TooBig:
        return "TooBig"
    return "let by"


def over_by(first, second, told):
    """The over of the texts of two makes and of told ways."""
    ways = read_told(told)
    return Over(read(first), read(second), ways[0], ways[1])


def over_told(first, second, told):
    """Where each kind and each place of a first make goes over to, a row each."""
    over = over_by(first, second, told)
    kinds = [" ".join([kind[0], way_to(over.ways, kind[0])]) for kind in over.first[0]]
    places = [" ".join([h, l, way_to(over.places, (h, l))]) for h, l in places_of(over.first)]
    return "\n".join(kinds + places)


def way_to(ways, thing):
    """The word for what a kind or a place goes over to."""
    return ways[thing][0] if thing in ways else NO_WAY


def played_text(first, second, told, deeds):
    """How the hands of a house of an over stand behind deeds, and what they told, a row each."""
    over = over_by(first, second, told)
    words = [] if deeds == "" else deeds.split(" ")
    house = played(over, [deed_by(over, word) for word in words])
    return "\n".join([hand_text(house, hand[0]) for hand in over.first[2]])


def deed_by(over, word):
    """The deed that a word writes."""
    if word.endswith("!"):
        return ("over", need_hand(over, word[:-1]))
    if word.endswith("?"):
        return ("back", need_hand(over, word[:-1]))
    return ("step", need_hand(over, word))


def need_hand(over, h):
    """A hand's name, refused where there is no such hand."""
    if hand_of(over.first, h) is None:
        raise NoName(f"no hand {h!r}")
    return h


def hand_text(house, h):
    """The row of a hand: its name, its make, its row, how many rows it did, and what it told."""
    numbers = [house.make_of(h), house.stand(h)[0], house.count(h)] + house.told(h)
    return " ".join([h] + [str(number) for number in numbers])
