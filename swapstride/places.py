"""Ways over for the places of a first make, the takes at which its hands wait: looked at, and made by rules."""

from swapstride.errors import Lacks, NoName
from swapstride.makes import hand_of, mark_row
from swapstride.terms import need_kind
from swapstride.ways import boxes_over, terms_by_rules


def look_place(first, second, ways, h, l, way):
    """True where a way of a place is right, else refused: by hand and marks, then by boxes, then by terms."""
    need_mark(first, h, l)
    need_mark(second, h, way[0])
    news = hand_of(second, h)[1]
    if [x for x, term in way[1]] != [x for x, kind in news]:
        raise Lacks(f"the way of the place {h} {l} hasn't just the second make's boxes in their order")
    olds = boxes_over(ways, hand_of(first, h)[1])
    for new, each in zip(news, way[1]):
        need_kind(second[0], each[1], olds, new[1])
    return True


def need_mark(make, h, l):
    """Refuse a hand that isn't there, or that has no take of a mark."""
    if hand_of(make, h) is None:
        raise NoName(f"no hand {h}")
    if mark_row(make, h, l) is None:
        raise NoName(f"no take of the mark {l} in the hand {h}")


def places_of(make):
    """All places of a make: hands in order, marks in the order of the rows."""
    places = []
    for h, boxes, rows in make[2]:
        places.extend([(h, row[1]) for row in rows if row[0] == "take"])
    return places


def made_places(first, second, ways, told):
    """Told ways of places and those by rules together, and the list of the first make's places that lack one."""
    places = dict(told)
    lacking = []
    for h, l in places_of(first):
        if (h, l) not in places:
            way = way_by_rules(first, second, ways, h, l)
            if way is None:
                lacking.append((h, l))
            else:
                places[(h, l)] = way
    return (places, lacking)


def way_by_rules(first, second, ways, h, l):
    """How a place goes over to the one of its mark in the second make, None where rules find no way."""
    if mark_row(second, h, l) is None:
        return None
    news = hand_of(second, h)[1]
    terms = terms_by_rules(second[0], ways, hand_of(first, h)[1], news)
    if terms is None:
        return None
    return (l, tuple([(new[0], term) for new, term in zip(news, terms)]))
