"""A house kept through stops: each deed is in the journal ahead of being done."""

from swapstride.codes import house_code
from swapstride.journal import LONG, entry_of, read_journal
from swapstride.mixed import Mixed

# Stands among the deeds that are asked, in their form.
PACKING = ("pack", None)


class Kept:
    """A house of an over at its begin, with its journal, what is asked, and the outside.

    many is how many deeds the journal has; unwritten has the numbers of the first thing asked that are still to be
    written, None where it isn't begun; seen is the outside, unlike whether it is torn.
    """

    def __init__(self, over):
        self.house = Mixed(over)
        self.lines = house_code(self.house)
        self.many = 0
        self.asked = []
        self.unwritten = None
        self.page = []
        self.seen = dict([(hand[0], []) for hand in over.first[2]])
        self.unlike = False

    def ask(self, word, h):
        """Ask for a deed, behind all that is asked already."""
        self.asked.append((word, h))

    def pack(self):
        """Ask for a journal that begins with the house as it will be then."""
        self.asked.append(PACKING)

    def step(self):
        """Do a small step of the first thing asked; False where nothing is asked."""
        if len(self.asked) == 0:
            return False
        if self.unwritten is None:
            self.unwritten = self.numbers_asked()
        if len(self.unwritten) == 0:
            self.finish()
        elif self.asked[0] == PACKING:
            self.page.append(self.unwritten.pop(0))
        else:
            self.lines.append(self.unwritten.pop(0))
        return True

    def numbers_asked(self):
        """All numbers to be written for the first thing asked."""
        thing = self.asked[0]
        if thing == PACKING:
            return house_code(self.house)
        return entry_of(self.house.over, thing[0], thing[1], self.many)

    def finish(self):
        """Do the first thing asked, its numbers being written."""
        thing = self.asked.pop(0)
        self.unwritten = None
        if thing == PACKING:
            self.lines = self.page
            self.page = []
            self.many = 0
        else:
            ahead = len(self.house.told(thing[1]))
            self.house.deed(thing[0], thing[1])
            self.many = self.many + 1
            self.show(thing[1], ahead)

    def show(self, h, ahead):
        """Let what a hand told go outside, but so many tellings ahead."""
        for n, value in list(enumerate(self.house.told(h)))[ahead:]:
            if n == len(self.seen[h]):
                self.seen[h].append(value)
            elif value != self.seen[h][n]:
                self.unlike = True

    def stop(self):
        """Lose all but the journal and the outside, and go on by the journal."""
        read = read_journal(self.house.over, self.lines)
        self.house = read[0]
        self.many = read[1]
        self.lines = self.lines[:self.lines[0] + LONG * self.many]
        self.asked = []
        self.unwritten = None
        self.page = []
        for hand in self.house.over.first[2]:
            self.show(hand[0], 0)

    def journal(self):
        """The numbers of the journal."""
        return list(self.lines)

    def outside(self, h):
        """What came outside of a hand's tellings, by number."""
        return list(self.seen[h])

    def torn(self):
        """Whether a telling came outside that was unlike the one that came first by its number."""
        return self.unlike

    def code(self):
        """The numbers of the house as it is now."""
        return house_code(self.house)
