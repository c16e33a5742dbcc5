"""One step of a hand by a make, for whoever keeps its stand and the letters.

The boxes of a stand are never changed here: a step gives another dict, or the same one where no box changes.
"""

from swapstride.makes import hand_of, row_ways
from swapstride.terms import with_box
from swapstride.values import nought
from swapstride.worth import worth


def begin_of(make, h):
    """The stand with which a hand begins."""
    return (0, dict([(x, nought(make[0], kind)) for x, kind in hand_of(make, h)[1]]))


def own_stand(stand):
    """The same stand, with a dict of its own."""
    return (stand[0], dict(stand[1]))


def own_lists(lists):
    """The same lists by names, each a list of its own."""
    return dict([(name, list(each)) for name, each in lists.items()])


def row_at(make, h, stand):
    """The row that a hand does next."""
    return hand_of(make, h)[2][stand[0]]


def first_letter(row, letters):
    """The letter that a row would take of letters by channels; None where there is none, or the row takes none."""
    if row[0] == "take" and len(letters[row[2]]) > 0:
        return letters[row[2]][0]
    return None


def stride(make, h, stand, letter):
    """The stand behind a step, letter being what a take would take, if anything; None where nothing is done."""
    row = row_at(make, h, stand)
    if row[0] == "end" or (row[0] == "take" and letter is None):
        return None
    return (row_behind(make, row, stand), boxes_behind(make, row, stand[1], letter))


def row_behind(make, row, stand):
    """The number of the row to which a row leads."""
    ways = row_ways(row, stand[0])
    if row[0] == "if" and worth(make[0], row[1], stand[1]) == 0:
        return ways[1]
    return ways[0]


def boxes_behind(make, row, boxes, letter):
    """The boxes as a row leaves them."""
    if row[0] == "set":
        return with_box(boxes, row[1], worth(make[0], row[2], boxes))
    if row[0] == "take":
        return with_box(boxes, row[3], letter)
    return boxes


def done(make, h, stand, coming, going, tellings):
    """The stand behind a step that is done: it takes, sends and tells; None, and nothing else, where it does nothing.

    coming and going are letters by channels, to and from the hand.
    """
    row = row_at(make, h, stand)
    behind = stride(make, h, stand, first_letter(row, coming))
    if behind is None:
        return None
    if row[0] == "take":
        coming[row[2]].pop(0)
    elif row[0] == "send":
        going[row[1]].append(worth(make[0], row[2], stand[1]))
    elif row[0] == "tell":
        tellings.append(worth(make[0], row[1], stand[1]))
    return behind
