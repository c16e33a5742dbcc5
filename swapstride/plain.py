"""A house of one make: its hands beside one another, and the letters between them."""

from swapstride.houses import House
from swapstride.strides import done, first_letter, own_lists, own_stand, row_at, stride


class Plain(House):
    """A house of one make at its begin."""

    def __init__(self, make):
        House.__init__(self, make)
        self.make = make

    def step(self, h):
        """Let a hand do its next row; False where nothing is done."""
        behind = done(self.make, h, self.stands[h], self.between, self.between, self.tellings[h])
        if behind is None:
            return False
        self.stands[h] = behind
        self.counts[h] = self.counts[h] + 1
        return True

    def weave(self, hands):
        """Let hands do one step each, in their order; how many rows were done."""
        many = 0
        for h in hands:
            if self.step(h):
                many = many + 1
        return many

    def still(self):
        """Whether no step of any hand does a thing."""
        return all([self.stays(hand[0]) for hand in self.make[2]])

    def stays(self, h):
        """Whether a step of a hand does nothing."""
        now = self.stands[h]
        return stride(self.make, h, now, first_letter(row_at(self.make, h, now), self.between)) is None


def plain_at(make, stands, letters, told, counts):
    """A house begun amid, of four dicts by hands and channels; what they lack is as at the begin."""
    house = Plain(make)
    house.stands.update(dict([(h, own_stand(each)) for h, each in stands.items()]))
    house.between.update(own_lists(letters))
    house.tellings.update(own_lists(told))
    house.counts.update(counts)
    return house
