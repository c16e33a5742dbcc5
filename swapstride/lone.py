"""A hand by itself, with all letters that may come to it."""

from swapstride.makes import channels_from, channels_to
from swapstride.strides import begin_of, done, own_lists, own_stand


class Lone:
    """A lone hand: letters has a list for some channels, or none; it begins in the stand handed in, if any."""

    def __init__(self, make, h, letters, stand=None):
        self.make = make
        self.name = h
        self.now = begin_of(make, h) if stand is None else own_stand(stand)
        self.coming = dict([(c, list(letters.get(c, []))) for c in channels_to(make, h)])
        self.going = dict([(c, []) for c in channels_from(make, h)])
        self.tellings = []
        self.many = 0

    def step(self):
        """Do the next row; False where nothing is done."""
        behind = done(self.make, self.name, self.now, self.coming, self.going, self.tellings)
        if behind is None:
            return False
        self.now = behind
        self.many = self.many + 1
        return True

    def stand(self):
        """The number of the row that is next, and the values of the boxes."""
        return own_stand(self.now)

    def told(self):
        """What the hand told so far."""
        return list(self.tellings)

    def sent(self):
        """What the hand sent so far, for each channel from it."""
        return own_lists(self.going)

    def left(self):
        """The letters not taken yet, for each channel to it."""
        return own_lists(self.coming)

    def count(self):
        """How many rows the hand did."""
        return self.many
