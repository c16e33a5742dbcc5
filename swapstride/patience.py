"""How long a hand of the first make may go on without coming to a place at which it may be changed over."""

from swapstride.makes import hand_of, ways_of
from swapstride.overs import is_place


def late(over, h):
    """Rows of a hand that lead round without such a place, None where there are none."""
    ways = ways_of(hand_of(over.first, h)[2])
    spans = spans_of(over, h)
    loose = [k for k in range(len(ways)) if k not in spans]
    if len(loose) == 0:
        return None
    walk = []
    k = loose[0]
    # A row without a span leads to another one, or it would have a span: so the walk comes round.
    while k not in walk:
        walk.append(k)
        k = [way for way in ways[k] if way not in spans][0]
    return walk[walk.index(k):]


def patience(over, h):
    """The most rows that a hand can do until it stands at such a place or an end, None where it may be late."""
    spans = spans_of(over, h)
    if len(spans) < len(hand_of(over.first, h)[2]):
        return None
    return max(spans.values())


def spans_of(over, h):
    """For each row the most rows that can be done from it; those from which one may go on for ever are left out."""
    rows = hand_of(over.first, h)[2]
    ways = ways_of(rows)
    spans = dict([(k, 0) for k, row in enumerate(rows) if row[0] == "end" or is_place(over, h, row)])
    ready = ready_rows(ways, spans)
    while len(ready) > 0:
        for k in ready:
            spans[k] = 1 + max([spans[way] for way in ways[k]])
        ready = ready_rows(ways, spans)
    return spans


def ready_rows(ways, spans):
    """The rows without a span that lead to rows with one alone."""
    return [k for k, each in enumerate(ways) if k not in spans and all([way in spans for way in each])]
