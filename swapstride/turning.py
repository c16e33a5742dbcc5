"""Values of the first make turned into those of the second one."""

from swapstride.kinds import parts_of, sort_of
from swapstride.terms import part_kind
from swapstride.ways import goes_to
from swapstride.worth import worth


def turned(first, second, ways, kind, value):
    """What a value becomes whose kind goes over."""
    if kind == "num":
        return value
    how = ways[kind][1]
    parts = parts_of(first[0], kind)
    if sort_of(first[0], kind) == "rec":
        values = dict([(part[0], each) for part, each in zip(parts, value[1])])
        return worth(second[0], how, turned_boxes(first, second, ways, parts, values))
    tag = value[1]
    it = ("it", part_kind(first[0], kind, tag))
    return worth(second[0], dict(how)[tag], turned_boxes(first, second, ways, (it,), {"it": value[2]}))


def turned_boxes(first, second, ways, parts, values):
    """Of parts, or boxes, of the first make those that go over, with what their values become; others are lost."""
    over = [part for part in parts if goes_to(ways, part[1]) is not None]
    return dict([(x, turned(first, second, ways, kind, values[x])) for x, kind in over])
