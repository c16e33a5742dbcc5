"""Values of kinds: numbers, recs as (K, values), alts as (K, tag, value)."""

from swapstride.kinds import parts_of, sort_of
from swapstride.words import WIDE


def is_of(kinds, kind, value):
    """Whether anything made of whole numbers, truths, texts and tuples is a value of a kind."""
    if kind == "num":
        return is_num(value)
    if not isinstance(value, tuple):
        return False
    if sort_of(kinds, kind) == "rec":
        return is_rec(kinds, kind, value)
    return is_alt(kinds, kind, value)


def is_num(value):
    """Whether anything is a number."""
    # Python counts truths among its whole numbers.
    return isinstance(value, int) and not isinstance(value, bool) and 0 <= value < WIDE


def is_rec(kinds, kind, value):
    """Whether a tuple is a value of a rec."""
    if len(value) != 2 or value[0] != kind:
        return False
    inner = value[1]
    parts = parts_of(kinds, kind)
    if not isinstance(inner, tuple) or len(inner) != len(parts):
        return False
    return all([is_of(kinds, part[1], each) for part, each in zip(parts, inner)])


def is_alt(kinds, kind, value):
    """Whether a tuple is a value of an alt."""
    if len(value) != 3 or value[0] != kind:
        return False
    return any([is_of(kinds, part[1], value[2]) for part in parts_of(kinds, kind) if part[0] == value[1]])


def nought(kinds, kind):
    """The nought of a kind."""
    if kind == "num":
        return 0
    parts = parts_of(kinds, kind)
    if sort_of(kinds, kind) == "rec":
        return (kind, tuple([nought(kinds, part[1]) for part in parts]))
    return (kind, parts[0][0], nought(kinds, parts[0][1]))


def field(kinds, value, f):
    """The field f of a value of a rec."""
    names = [part[0] for part in parts_of(kinds, value[0])]
    return value[1][names.index(f)]
