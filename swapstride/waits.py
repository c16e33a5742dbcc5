"""Who waits in a house of an over, and on whom."""

from swapstride.makes import channel_of


def waits(mixed, h):
    """How a hand waits: for nothing, at its end, for a letter, or for being changed; then for which, and from whom."""
    row = mixed.row_of(h)
    if row[0] == "end":
        return ("ended",)
    if row[0] != "take" or mixed.letter_for(h, row) is not None:
        return ("goes",)
    c = row[2]
    word = "letter" if len(mixed.letters(c)) == 0 else "change"
    return (word, c, channel_of(mixed.over.first, c)[1])


def is_stuck(mixed):
    """Whether no hand can do a row or be changed over."""
    return not any([can_go(mixed, hand[0]) for hand in mixed.over.first[2]])


def can_go(mixed, h):
    """Whether a hand can do a row or be changed over."""
    return waits(mixed, h) == ("goes",) or mixed.stand_over(h) is not None


def chain(mixed, h):
    """Where waiting leads from a hand of a stuck house, and the hands on which it waits; None where it isn't stuck."""
    if not is_stuck(mixed):
        return None
    hands = [h]
    wait = waits(mixed, h)
    while wait[0] == "letter":
        if wait[2] in hands:
            return ("ring", hands[hands.index(wait[2]):])
        hands.append(wait[2])
        wait = waits(mixed, wait[2])
    return (wait[0], hands)
