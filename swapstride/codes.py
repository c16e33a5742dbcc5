"""Houses of overs written as numbers, and read back.

Each thing is written so that its end is seen from what is ahead of it: how many there are stands ahead of things, and
values are written by their kinds. So no two houses of one over have the same numbers. What is read is a list of the
numbers from the last to the first, of which each thing takes its own off the end.
"""

from swapstride.errors import NoCode
from swapstride.kinds import parts_of, sort_of
from swapstride.makes import channel_of, channels_to, hand_of
from swapstride.mixed import Mixed, make_by
from swapstride.words import WIDE


def house_code(mixed):
    """The numbers of a house: how many they are, all that is in it, and the sum of these."""
    inner = []
    for hand in mixed.over.first[2]:
        inner.extend(hand_code(mixed, hand[0]))
    for channel in mixed.over.first[1]:
        inner.extend(letters_code(mixed.over, channel[0], mixed.between[channel[0]]))
    numbers = [len(inner) + 2] + inner
    return numbers + [sum(numbers) % WIDE]


def house_of(over, numbers):
    """The house of which these are the numbers, refused where how many they are, or their sum, isn't as they tell."""
    if len(numbers) == 0 or numbers[0] != len(numbers):
        raise NoCode("the first isn't how many numbers there are")
    if numbers[-1] != sum(numbers[:-1]) % WIDE:
        raise NoCode("the last isn't the sum of the other numbers")
    house = Mixed(over)
    rest = list(reversed(numbers[1:-1]))
    for hand in over.first[2]:
        read_hand(house, hand[0], rest)
    for channel in over.first[1]:
        house.between[channel[0]] = letters_from(over, channel[0], rest)
    if len(rest) > 0:
        raise NoCode("more numbers than a house has")
    return house


def next_number(rest):
    """The next number, refused where none is left."""
    if len(rest) == 0:
        raise NoCode("fewer numbers than a house has")
    return rest.pop()


def row_code(numbers):
    """Numbers with how many they are ahead of them."""
    return [len(numbers)] + numbers


def row_from(rest):
    """Numbers ahead of which stands how many they are."""
    many = next_number(rest)
    return [next_number(rest) for k in range(many)]


def hand_code(mixed, h):
    """The numbers of a hand: its make, its stand, what it told and counted, and what its going back needs."""
    numbers = [mixed.sides[h]] + stand_code(mixed.make_for(h), h, mixed.stands[h])
    return numbers + row_code(mixed.tellings[h]) + count_code(mixed.counts[h]) + before_code(mixed, h)


def read_hand(house, h, rest):
    """Put a hand into a house."""
    house.sides[h] = next_number(rest)
    house.stands[h] = stand_from(house.make_for(h), h, rest)
    house.tellings[h] = row_from(rest)
    house.counts[h] = count_from(rest)
    house.befores[h] = before_from(house.over, h, rest)


def before_code(mixed, h):
    """The numbers of what going back of a hand needs."""
    before = mixed.befores[h]
    if before is None:
        return [0]
    numbers = [1] + stand_code(mixed.over.first, h, before[0]) + count_code(before[1])
    for c in channels_to(mixed.over.first, h):
        numbers.extend(letters_code(mixed.over, c, before[2][c]))
    return numbers


def before_from(over, h, rest):
    """What going back of a hand needs."""
    if next_number(rest) == 0:
        return None
    stand = stand_from(over.first, h, rest)
    count = count_from(rest)
    return (stand, count, dict([(c, letters_from(over, c, rest)) for c in channels_to(over.first, h)]))


def stand_code(make, h, stand):
    """The numbers of a stand of a hand by a make."""
    numbers = [stand[0]]
    for x, kind in hand_of(make, h)[1]:
        numbers.extend(value_code(make[0], kind, stand[1][x]))
    return numbers


def stand_from(make, h, rest):
    """A stand of a hand by a make."""
    row = next_number(rest)
    return (row, dict([(x, value_from(make[0], kind, rest)) for x, kind in hand_of(make, h)[1]]))


def letters_code(over, c, letters):
    """The numbers of letters of a channel, each with its make."""
    numbers = [len(letters)]
    for number, value in letters:
        make = make_by(over, number)
        numbers.append(number)
        numbers.extend(value_code(make[0], channel_of(make, c)[3], value))
    return numbers


def letters_from(over, c, rest):
    """Letters of a channel, each with its make."""
    letters = []
    many = next_number(rest)
    for k in range(many):
        number = next_number(rest)
        make = make_by(over, number)
        letters.append((number, value_from(make[0], channel_of(make, c)[3], rest)))
    return letters


def value_code(kinds, kind, value):
    """The numbers of a value of a kind; of an alt's value the tag's number is first."""
    if kind == "num":
        return [value]
    parts = parts_of(kinds, kind)
    numbers = []
    if sort_of(kinds, kind) == "rec":
        for part, each in zip(parts, value[1]):
            numbers.extend(value_code(kinds, part[1], each))
        return numbers
    tag = [part[0] for part in parts].index(value[1])
    return [tag] + value_code(kinds, parts[tag][1], value[2])


def value_from(kinds, kind, rest):
    """A value of a kind."""
    if kind == "num":
        return next_number(rest)
    parts = parts_of(kinds, kind)
    if sort_of(kinds, kind) == "rec":
        return (kind, tuple([value_from(kinds, part[1], rest) for part in parts]))
    tag = parts[next_number(rest)]
    return (kind, tag[0], value_from(kinds, tag[1], rest))


def count_code(count):
    """The numbers of a whole number that may be WIDE or more: how many figures it has, then these, the least first."""
    figures = []
    while count > 0:
        figures.append(count % WIDE)
        count = count // WIDE
    return row_code(figures)


def count_from(rest):
    """A whole number that may be WIDE or more."""
    count = 0
    for figure in reversed(row_from(rest)):
        count = count * WIDE + figure
    return count
