"""What terms come to: their values by the values of the boxes."""

from swapstride.terms import with_box
from swapstride.values import field
from swapstride.words import WIDE


def worth(kinds, term, boxes):
    """The value of a term by the values of the boxes."""
    head = term[0]
    if head == "num":
        return term[1]
    if head == "box":
        return boxes[term[1]]
    if head == "op":
        return op_worth(term[1], worth(kinds, term[2], boxes), worth(kinds, term[3], boxes))
    if head == "rec":
        return (term[1], tuple([worth(kinds, inner, boxes) for inner in term[2]]))
    if head == "get":
        return field(kinds, worth(kinds, term[1], boxes), term[2])
    if head == "tag":
        return (term[1], term[2], worth(kinds, term[3], boxes))
    if head == "case":
        return case_worth(kinds, term, boxes)
    taken = term[3] if worth(kinds, term[1], boxes) == 0 else term[2]
    return worth(kinds, taken, boxes)


def op_worth(sign, a, b):
    """What an op makes of two numbers."""
    if sign == "+":
        return (a + b) % WIDE
    if sign == "-":
        return (a - b) % WIDE
    if sign == "*":
        return a * b % WIDE
    if sign == "<":
        return 1 if a < b else 0
    return 1 if a == b else 0


def case_worth(kinds, term, boxes):
    """The value of a case: that of the arm of the tag."""
    value = worth(kinds, term[1], boxes)
    arm = [each for each in term[2] if each[0] == value[1]][0]
    return worth(kinds, arm[2], with_box(boxes, arm[1], value[2]))
