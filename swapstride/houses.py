"""What houses of one make and houses that change have in common."""

from swapstride.strides import begin_of, own_stand


class House:
    """A house at its begin, by a make: each hand at row 0 with noughts, no letters, nothing told."""

    def __init__(self, make):
        self.stands = dict([(hand[0], begin_of(make, hand[0])) for hand in make[2]])
        self.between = dict([(channel[0], []) for channel in make[1]])
        self.tellings = dict([(hand[0], []) for hand in make[2]])
        self.counts = dict([(hand[0], 0) for hand in make[2]])

    def stand(self, h):
        """The number of the row that is next for a hand, and the values of its boxes."""
        return own_stand(self.stands[h])

    def told(self, h):
        """What a hand told so far."""
        return list(self.tellings[h])

    def letters(self, c):
        """The letters in a channel, the one that is taken next first."""
        return list(self.between[c])

    def count(self, h):
        """How many rows a hand did."""
        return self.counts[h]
