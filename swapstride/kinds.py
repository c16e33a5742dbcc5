"""Kinds: what they are made of, their sizes, and whether they may stand as they do."""

from swapstride.errors import NoName, TooBig, Twice

GREATEST_SIZE = 30


def look_kinds(kinds):
    """True where each kind may stand behind those ahead of it, else the first that may not is refused."""
    sizes = {"num": 1}
    for kind in kinds:
        look_names(kind, sizes)
        sizes[kind[0]] = looked_size(kind, sizes)
    return True


def look_names(kind, sizes):
    """Refuse a kind by its names, sizes having num and the kinds ahead of it."""
    name = kind[0]
    parts = kind[2]
    if name in sizes:
        raise Twice(f"two kinds {name}")
    need_once([part[0] for part in parts], f"parts of the kind {name}")
    for part in parts:
        other = part[1]
        if other not in sizes:
            raise NoName(f"no kind {other} ahead of the kind {name}")


def need_once(names, things):
    """Refuse names of things of which one stands for a second time."""
    if len(set(names)) < len(names):
        raise Twice(f"two {things} of one name")


def looked_size(kind, sizes):
    """The size of a kind, refused where it is too great."""
    size = size_by(kind, sizes)
    if size > GREATEST_SIZE:
        name = kind[0]
        raise TooBig(f"the kind {name} has the size {size}")
    return size


def size_by(kind, sizes):
    """The size of a kind by the sizes of num and of the kinds ahead of it."""
    inner = [sizes[part[1]] for part in kind[2]]
    if kind[1] == "rec":
        return 1 + sum(inner)
    return 1 + max(inner)


def size_of(kinds, kind):
    """The size of num or of a kind."""
    # In the kinds' order: part by part downward, kinds that share their parts would be looked at again and again.
    sizes = {"num": 1}
    for each in kinds:
        sizes[each[0]] = size_by(each, sizes)
    return sizes[kind]


def sort_of(kinds, K):
    """The sort of a kind, None of what is no kind's name."""
    for name, sort, parts in kinds:
        if name == K:
            return sort
    return None


def parts_of(kinds, K):
    """The parts of a kind; what is no kind's name has none."""
    for name, sort, parts in kinds:
        if name == K:
            return parts
    return ()


def need_there(kinds, kind):
    """Refuse what is neither num nor a kind."""
    if kind != "num" and sort_of(kinds, kind) is None:
        raise NoName(f"no kind {kind}")
