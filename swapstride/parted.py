"""A run parted: the deeds that count, and what was done by the first make, in changing over, and by the second."""

from swapstride.mixed import Mixed


def played(over, deeds):
    """The house to which deeds come."""
    house = Mixed(over)
    for word, h in deeds:
        house.deed(word, h)
    return house


def counting(over, deeds):
    """The deeds that count: without those that did nothing, and without all that was taken back."""
    house = Mixed(over)
    left = []
    for word, h in deeds:
        if not house.deed(word, h):
            continue
        if word == "back":
            left = without_last(left, h)
        else:
            left.append((word, h))
    return left


def without_last(deeds, h):
    """Deeds without the last changing over of a hand and all that this hand did behind it."""
    at = max([k for k, deed in enumerate(deeds) if deed == ("over", h)])
    return deeds[:at] + [deed for deed in deeds[at:] if deed[1] != h]


def parted(over, deeds):
    """Of the deeds that count the hands of steps done as elder, of changings over, and of steps done as changed."""
    first = []
    changed = []
    second = []
    for word, h in counting(over, deeds):
        # A hand that counts as changed is so for good: no going back is left among what counts.
        if word == "over":
            changed.append(h)
        elif h in changed:
            second.append(h)
        else:
            first.append(h)
    return (first, changed, second)


def put_right(over, deeds):
    """Deeds that come to the same house: all steps as elder, then all changings over, then all steps as changed."""
    lists = parted(over, deeds)
    overs = [("over", h) for h in lists[1]]
    return steps_of(lists[0]) + overs + steps_of(lists[2])


def steps_of(hands):
    """A step of each of some hands."""
    return [("step", h) for h in hands]
