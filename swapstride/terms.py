"""Terms looked at: their kinds, the boxes that they need, noughts as terms."""

from swapstride.errors import Lacks, NoCount, NoName, Twice, WrongKind
from swapstride.kinds import need_once, parts_of, sort_of
from swapstride.words import WIDE


def kind_of(kinds, term, boxes):
    """The kind of a term by the kinds of the boxes at hand, or refused."""
    head = term[0]
    if head == "num":
        return num_kind(term[1])
    if head == "box":
        return box_kind(term[1], boxes)
    if head == "op":
        return op_kind(kinds, term, boxes)
    if head == "rec":
        return rec_kind(kinds, term, boxes)
    if head == "get":
        return get_kind(kinds, term, boxes)
    if head == "tag":
        return tag_kind(kinds, term, boxes)
    if head == "case":
        return case_kind(kinds, term, boxes)
    return if_kind(kinds, term, boxes)


def num_kind(n):
    """The kind of a number's term."""
    if not 0 <= n < WIDE:
        raise WrongKind(f"{n} is no number below {WIDE}")
    return "num"


def box_kind(x, boxes):
    """The kind of a box's term."""
    if x not in boxes:
        raise NoName(f"no box {x} at hand")
    return boxes[x]


def op_kind(kinds, term, boxes):
    """The kind of an op's term."""
    need_kind(kinds, term[2], boxes, "num")
    need_kind(kinds, term[3], boxes, "num")
    return "num"


def rec_kind(kinds, term, boxes):
    """The kind of a rec's term."""
    name = term[1]
    need_sort(kinds, name, "rec")
    parts = parts_of(kinds, name)
    if len(term[2]) != len(parts):
        raise NoCount(f"as many terms as the rec {name} has fields are asked for")
    for part, inner in zip(parts, term[2]):
        need_kind(kinds, inner, boxes, part[1])
    return name


def get_kind(kinds, term, boxes):
    """The kind of a get's term."""
    kind = kind_of_sort(kinds, term[1], boxes, "rec")
    return part_kind(kinds, kind, term[2])


def tag_kind(kinds, term, boxes):
    """The kind of a tag's term."""
    name = term[1]
    need_sort(kinds, name, "alt")
    need_kind(kinds, term[3], boxes, part_kind(kinds, name, term[2]))
    return name


def case_kind(kinds, term, boxes):
    """The kind of a case's term."""
    kind = kind_of_sort(kinds, term[1], boxes, "alt")
    arms = term[2]
    need_tags(kinds, kind, arms)
    inner = arm_kind(kinds, kind, arms[0], boxes)
    for arm in arms[1:]:
        need_same(arm_kind(kinds, kind, arm, boxes), inner)
    return inner


def arm_kind(kinds, kind, arm, boxes):
    """The kind of the term of an arm in a case of a kind."""
    x = arm[1]
    if x in boxes:
        raise Twice(f"the box {x} of an arm is at hand already")
    return kind_of(kinds, arm[2], with_box(boxes, x, part_kind(kinds, kind, arm[0])))


def if_kind(kinds, term, boxes):
    """The kind of an if's term."""
    need_kind(kinds, term[1], boxes, "num")
    kind = kind_of(kinds, term[2], boxes)
    need_kind(kinds, term[3], boxes, kind)
    return kind


def need_kind(kinds, term, boxes, kind):
    """Refuse a term of another kind than the one told."""
    need_same(kind_of(kinds, term, boxes), kind)


def need_same(found, kind):
    """Refuse a kind that is another one than the one told."""
    if found != kind:
        raise WrongKind(f"a term of the kind {found} where {kind} is asked for")


def need_sort(kinds, name, sort):
    """Refuse a name that is no kind's, or that of a kind of the other sort."""
    found = sort_of(kinds, name)
    if found is None:
        raise NoName(f"no kind {name}")
    if found != sort:
        raise WrongKind(f"the kind {name} is no {sort}")


def kind_of_sort(kinds, term, boxes, sort):
    """The kind of a term, refused where it isn't of a sort."""
    kind = kind_of(kinds, term, boxes)
    if sort_of(kinds, kind) != sort:
        raise WrongKind(f"a term of the kind {kind}, which is no {sort}")
    return kind


def part_kind(kinds, kind, name):
    """The kind of the part of a name, refused where a kind has none of it."""
    for part in parts_of(kinds, kind):
        if part[0] == name:
            return part[1]
    raise NoName(f"no part {name} in the kind {kind}")


def need_tags(kinds, kind, arms):
    """Refuse arms that don't have each tag of a kind just once."""
    own = [part[0] for part in parts_of(kinds, kind)]
    tags = [arm[0] for arm in arms]
    for tag in tags:
        if tag not in own:
            raise NoName(f"no tag {tag} in the kind {kind}")
    need_once(tags, f"arms in a case of the kind {kind}")
    if len(tags) < len(own):
        raise Lacks(f"no arm for some tag of the kind {kind}")


def with_box(boxes, x, thing):
    """The boxes and one more, in a dict of its own: the one handed in stays as it was."""
    more = dict(boxes)
    more[x] = thing
    return more


def nought_term(kinds, kind):
    """The nought of a kind as a term."""
    if kind == "num":
        return ("num", 0)
    parts = parts_of(kinds, kind)
    if sort_of(kinds, kind) == "rec":
        return ("rec", kind, tuple([nought_term(kinds, part[1]) for part in parts]))
    return ("tag", kind, parts[0][0], nought_term(kinds, parts[0][1]))


def boxes_in(term):
    """The boxes that a term needs, sorted, each once; those that its arms bring are not among them."""
    return sorted(set(needed(term)))


def needed(term):
    """The boxes that a term needs, perhaps some of them several times."""
    if term[0] == "box":
        return [term[1]]
    found = []
    for inner in inner_terms(term):
        found.extend(needed(inner))
    if term[0] == "case":
        for tag, x, inner in term[2]:
            found.extend([each for each in needed(inner) if each != x])
    return found


def inner_terms(term):
    """The terms straight in a term, but those of a case's arms, which have boxes of their own."""
    head = term[0]
    if head == "op":
        return term[2:]
    if head == "rec":
        return term[2]
    if head in ("get", "case"):
        return (term[1],)
    if head == "tag":
        return (term[3],)
    if head == "if":
        return term[1:]
    return ()
