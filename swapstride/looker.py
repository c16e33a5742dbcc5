"""Makes looked at: let by, or refused by the first thing in a make that has a fault."""

from swapstride.errors import Falls, NoName, NotOwn
from swapstride.kinds import look_kinds, need_once, need_there
from swapstride.makes import channel_of, hand_of, ways_of
from swapstride.terms import box_kind, need_kind, need_same

FROM = 1
TO = 2


def look(make):
    """True where a make is let by, else the first of its things that has a fault is refused."""
    look_kinds(make[0])
    need_once([hand[0] for hand in make[2]], "hands")
    need_once([channel[0] for channel in make[1]], "channels")
    for channel in make[1]:
        look_channel(make, channel)
    for hand in make[2]:
        look_hand(make, hand)
    return True


def look_channel(make, channel):
    """Refuse a channel of which an end or the kind isn't there."""
    for h in (channel[FROM], channel[TO]):
        if hand_of(make, h) is None:
            raise NoName(f"no hand {h}")
    need_there(make[0], channel[3])


def look_hand(make, hand):
    """Refuse a hand by its boxes and marks, then by its rows, then by where they lead."""
    h = hand[0]
    rows = hand[2]
    need_once([box[0] for box in hand[1]], f"boxes of the hand {h}")
    need_once([row[1] for row in rows if row[0] == "take"], f"takes of the hand {h}")
    for box in hand[1]:
        need_there(make[0], box[1])
    boxes = dict(hand[1])
    for row in rows:
        look_row(make, h, boxes, row)
    look_falls(h, rows)


def look_row(make, h, boxes, row):
    """Refuse a row of a hand by the names and kinds in it, its terms' too."""
    head = row[0]
    if head == "set":
        need_kind(make[0], row[2], boxes, box_kind(row[1], boxes))
    elif head == "send":
        need_kind(make[0], row[2], boxes, own_kind(make, row[1], FROM, h))
    elif head == "take":
        need_same(box_kind(row[3], boxes), own_kind(make, row[2], TO, h))
    elif head in ("tell", "if"):
        need_kind(make[0], row[1], boxes, "num")


def own_kind(make, c, end, h):
    """The kind of a channel, refused where it isn't there or has another hand than h at the end told."""
    channel = channel_of(make, c)
    if channel is None:
        raise NoName(f"no channel {c}")
    if channel[end] != h:
        raise NotOwn(f"the channel {c} has another hand than {h} there")
    return channel[3]


def look_falls(h, rows):
    """Refuse a hand's rows where there are none, or one leads to none of them."""
    if len(rows) == 0:
        raise Falls(f"no rows in the hand {h}")
    for ways in ways_of(rows):
        for way in ways:
            if way >= len(rows):
                raise Falls(f"a way to no row, {way}, in the hand {h}")
