"""A house of one make: its hands beside one another, and the letters between them."""

from swapstride.strides import begin_of, done, first_letter, own_lists, own_stand, row_at, stride


class Plain:
    """A house at its begin: each hand at row 0 with noughts, no letters, nothing told."""

    def __init__(self, make):
        self.make = make
        self.stands = dict([(hand[0], begin_of(make, hand[0])) for hand in make[2]])
        self.between = dict([(channel[0], []) for channel in make[1]])
        self.tellings = dict([(hand[0], []) for hand in make[2]])
        self.counts = dict([(hand[0], 0) for hand in make[2]])

    def step(self, h):
        """Let a hand do its next row; False where nothing is done."""
        behind = done(self.make, h, self.stands[h], self.between, self.between, self.tellings[h])
        if behind is None:
            return False
        self.stands[h] = behind
        self.counts[h] = self.counts[h] + 1
        return True

    def stand(self, h):
        """The number of the row that is next for a hand, and the values of its boxes."""
        return own_stand(self.stands[h])

    def told(self, h):
        """What a hand told so far."""
        return list(self.tellings[h])

    def letters(self, c):
        """The letters in a channel, the one that is taken next first."""
        return list(self.between[c])

    def count(self, h):
        """How many rows a hand did."""
        return self.counts[h]

    def weave(self, hands):
        """Let hands do one step each, in their order; how many rows were done."""
        many = 0
        for h in hands:
            if self.step(h):
                many = many + 1
        return many

    def still(self):
        """Whether no step of any hand does a thing."""
        return all([self.stays(hand[0]) for hand in self.make[2]])

    def stays(self, h):
        """Whether a step of a hand does nothing."""
        now = self.stands[h]
        return stride(self.make, h, now, first_letter(row_at(self.make, h, now), self.between)) is None


def plain_at(make, stands, letters, told, counts):
    """A house begun amid, of four dicts by hands and channels; what they lack is as at the begin."""
    house = Plain(make)
    house.stands.update(dict([(h, own_stand(each)) for h, each in stands.items()]))
    house.between.update(own_lists(letters))
    house.tellings.update(own_lists(told))
    house.counts.update(counts)
    return house
