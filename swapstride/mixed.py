"""A house that changes: its hands go over from the first make to the second one by one, and back."""

from swapstride.houses import House
from swapstride.makes import channels_to
from swapstride.overs import brought, letter_over
from swapstride.strides import first_letter, row_at, stride
from swapstride.worth import worth

# The numbers of the makes, of hands and of letters.
FIRST = 1
SECOND = 2


class Mixed(House):
    """A house of an over at its begin; a letter is a tuple of its make's number and its value.

    befores has what going back of a hand needs: its stand and count ahead of its changing over, and for each channel
    the letters that it took since; None of a hand that can't go back.
    """

    def __init__(self, over):
        House.__init__(self, over.first)
        hands = [hand[0] for hand in over.first[2]]
        self.over = over
        self.sides = dict([(h, FIRST) for h in hands])
        self.befores = dict([(h, None) for h in hands])

    def make_of(self, h):
        """The number of the make that a hand follows, 1 or 2."""
        return self.sides[h]

    def make_for(self, h):
        """The make that a hand follows."""
        return make_by(self.over, self.sides[h])

    def row_of(self, h):
        """The row that a hand does next."""
        return row_at(self.make_for(h), h, self.stands[h])

    def deed(self, word, h):
        """Do a deed by its word; False where nothing is done."""
        if word == "step":
            return self.step(h)
        if word == "over":
            return self.change(h)
        return self.back(h)

    def step(self, h):
        """Let a hand do its next row; False where nothing is done."""
        make = self.make_for(h)
        now = self.stands[h]
        row = self.row_of(h)
        behind = stride(make, h, now, self.letter_for(h, row))
        if behind is None:
            return False
        if row[0] == "take":
            self.take(h, row[2])
        elif row[0] in ("send", "tell"):
            self.say(h, row, worth(make[0], row[-1], now[1]))
        self.stands[h] = behind
        self.counts[h] = self.counts[h] + 1
        return True

    def letter_for(self, h, row):
        """The letter that a row of a hand would take, as the hand may look into it; None where there is none for it."""
        letter = first_letter(row, self.between)
        # An elder hand never looks into a letter of the second make.
        if letter is None or letter[0] > self.sides[h]:
            return None
        return letter[1] if self.sides[h] == FIRST else as_second(self.over, row[2], letter)

    def take(self, h, c):
        """Take the first letter out of a channel, and keep it as it was for going back."""
        letter = self.between[c].pop(0)
        if self.befores[h] is not None:
            self.befores[h][2][c].append(letter)

    def say(self, h, row, value):
        """Send or tell a value, behind which a hand can't go back."""
        if row[0] == "send":
            self.between[row[1]].append((self.sides[h], value))
        else:
            self.tellings[h].append(value)
        self.befores[h] = None

    def change(self, h):
        """Change a hand over; False where it is changed already, or its stand can't be brought over."""
        behind = self.stand_over(h)
        if behind is None:
            return False
        taken = dict([(c, []) for c in channels_to(self.over.first, h)])
        self.befores[h] = (self.stands[h], self.counts[h], taken)
        self.sides[h] = SECOND
        self.stands[h] = behind
        return True

    def stand_over(self, h):
        """The stand of an elder hand brought over; None where it can't be, or the hand is changed."""
        return None if self.sides[h] == SECOND else brought(self.over, h, self.stands[h])

    def back(self, h):
        """Let a hand go back; False where it is elder, or has sent or told since its changing over."""
        before = self.befores[h]
        if before is None:
            return False
        for c, taken in before[2].items():
            self.between[c] = taken + self.between[c]
        self.sides[h] = FIRST
        self.stands[h] = before[0]
        self.counts[h] = before[1]
        self.befores[h] = None
        return True


def make_by(over, number):
    """The make of an over by its number."""
    return over.first if number == FIRST else over.second


def as_second(over, c, letter):
    """The value of a letter in a channel as the second make has it."""
    return letter_over(over, c, letter[1]) if letter[0] == FIRST else letter[1]


def same(one, other):
    """Whether two houses of one over are the same, in what going back needs too."""
    return all_in(one) == all_in(other)


def all_in(house):
    """All by which houses of one over differ."""
    return (house.sides, house.stands, house.between, house.tellings, house.counts, house.befores)
