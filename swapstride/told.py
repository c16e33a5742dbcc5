"""The texts of told ways, of kinds and of places: read_told reads one, told_shown writes it."""

from swapstride.bricks import bracketed, name_from, need, term_from, term_text, term_with, trees_of
from swapstride.errors import BadText
from swapstride.reader import kind_from, rows_in
from swapstride.ways import is_term

# What an alt's tag holds is a box by this word, which is no name.
IT = ("it",)
MOST_TAGS = 4


class ToldDraft:
    """What was read so far; the terms of a place's boxes are still a list, sets being that of the last place."""

    def __init__(self):
        self.ways = {}
        self.places = {}
        self.sets = None


def read_told(text):
    """The ways of kinds and those of places that a text tells, or BadText at the first row by which it tells none."""
    draft = ToldDraft()
    for at, row in enumerate(rows_in(text)):
        # A row by itself is refused as row 0; only here its place among all is known.
        try:
            put_told(draft, row.split(" "))
        except BadText:
            raise BadText(at) from None
    places = [(place, (way[0], tuple(way[1]))) for place, way in draft.places.items()]
    return (draft.ways, dict(places))


def put_told(draft, words):
    """Put a row, by its words, behind those read so far, where it may stand there."""
    head = words[0]
    if head in ("way", "ways"):
        need(draft.sets is None and len(words) >= 4)
        put_way(draft, words)
    elif head == "place":
        need(len(words) == 4)
        put_place(draft, words)
    else:
        need(head == "with" and draft.sets is not None and len(words) >= 3)
        draft.sets.append((name_from(words[1]), term_with(" ".join(words[2:]), IT)))


def put_way(draft, words):
    """Put a way of a kind of which none is told yet."""
    K = name_from(words[1])
    need(K not in draft.ways)
    text = " ".join(words[3:])
    how = term_with(text, IT) if words[0] == "way" else tags_in(text)
    draft.ways[K] = (kind_from(words[2]), how)


def tags_in(text):
    """The tags, each with its term, that a text writes."""
    trees = trees_of(text)
    need(len(trees) <= MOST_TAGS)
    return tuple([tag_from(tree) for tree in trees])


def tag_from(tree):
    """The tag with its term that a tree is."""
    need(isinstance(tree, list) and len(tree) == 2)
    return (name_from(tree[0]), term_from(tree[1], IT))


def put_place(draft, words):
    """Put a place of which no way is told yet, to be followed by its boxes."""
    place = (name_from(words[1]), name_from(words[2]))
    need(place not in draft.places)
    draft.sets = []
    draft.places[place] = (name_from(words[3]), draft.sets)


def told_shown(ways, places):
    """The text that tells ways of kinds and of places, both sorted."""
    rows = [way_text(K, ways[K]) for K in sorted(ways)]
    for place in sorted(places):
        rows.extend(place_texts(place, places[place]))
    return "\n".join(rows)


def way_text(K, way):
    """The row of a way of a kind."""
    how = way[1]
    if is_term(how):
        return " ".join(["way", K, way[0], term_text(how)])
    tags = [bracketed([tag, term_text(term)]) for tag, term in how]
    return " ".join(["ways", K, way[0]] + tags)


def place_texts(place, way):
    """The rows of a way of a place: its own, and those of its boxes."""
    boxes = [" ".join(["with", x, term_text(term)]) for x, term in way[1]]
    return [" ".join(["place", place[0], place[1], way[0]])] + boxes
