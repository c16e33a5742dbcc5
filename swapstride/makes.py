"""What is in a make: its hands, channels and marks, and where rows lead."""


def ways_of(rows):
    """For each row the numbers of the rows to which it may lead."""
    return [row_ways(row, k) for k, row in enumerate(rows)]


def row_ways(row, k):
    """The numbers of the rows to which the row of number k may lead; of an if that where its term isn't 0 is first."""
    if row[0] == "go":
        return (row[1],)
    if row[0] == "if":
        return (row[2], k + 1)
    if row[0] == "end":
        return ()
    return (k + 1,)


def hand_of(make, h):
    """The hand of a name, None where there is none."""
    return named(make[2], h)


def channel_of(make, c):
    """The channel of a name, None where there is none."""
    return named(make[1], c)


def named(things, name):
    """The thing that begins with a name, None where none does."""
    for thing in things:
        if thing[0] == name:
            return thing
    return None


def mark_row(make, h, l):
    """The number of the row of a hand that is the take of a mark, None where there is none."""
    for k, row in enumerate(hand_of(make, h)[2]):
        if row[0] == "take" and row[1] == l:
            return k
    return None


def channels_from(make, h):
    """The names of the channels from a hand, in order."""
    return [channel[0] for channel in make[1] if channel[1] == h]


def channels_to(make, h):
    """The names of the channels to a hand, in order."""
    return [channel[0] for channel in make[1] if channel[2] == h]
