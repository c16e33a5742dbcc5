"""The refusals: one class for each, all of them straight under SwapError."""


class SwapError(ValueError):
    """Any refusal."""


class BadText(SwapError):
    """A text that is none of those told; at is the number, from 0, of its first wrong row."""

    def __init__(self, at):
        SwapError.__init__(self, f"no such text, by its row {at}")
        self.at = at


class Twice(SwapError):
    """A name that stands for a second time where it may stand but once."""


class NoName(SwapError):
    """A name of nothing that is there."""


class NoCount(SwapError):
    """Too few or too many terms for a rec's fields."""


class WrongKind(SwapError):
    """A thing of another kind than the one asked for."""


class Lacks(SwapError):
    """Parts that lack, or that aren't just those asked for."""


class NotOwn(SwapError):
    """A channel that isn't from, or to, the hand that uses it."""


class Falls(SwapError):
    """A hand without rows, or one whose way leads to no row."""


class TooBig(SwapError):
    """A kind of too great a size."""


class NoFit(SwapError):
    """Two makes that don't fit with their ways."""


class NoCode(SwapError):
    """Numbers that are no house's."""
