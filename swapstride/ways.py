"""Ways over for the kinds of a first make to a second one: looked at, and made by rules."""

from swapstride.errors import Lacks, NoName
from swapstride.kinds import need_there, parts_of, sort_of
from swapstride.terms import need_kind, nought_term


def goes_to(ways, kind):
    """The kind of the second make to which a kind of the first one goes over, None where it doesn't."""
    if kind == "num":
        return "num"
    if kind in ways:
        return ways[kind][0]
    return None


def boxes_over(ways, parts):
    """The boxes of those parts, or boxes, of the first make that go over, with the kinds to which they go."""
    return dict([(x, goes_to(ways, kind)) for x, kind in parts if goes_to(ways, kind) is not None])


def look_ways(first, second, ways):
    """True where ways are right, else refused: by names, then by forms and tags, then by terms."""
    # A term rests on what the ways of other kinds lead to: so all names are looked at ahead of all terms.
    for K in ways:
        look_ends(first, second, K, ways[K][0])
    for K in ways:
        look_form(first, K, ways[K][1])
    for K in ways:
        look_terms(first, second, ways, K)
    return True


def look_ends(first, second, K, K2):
    """Refuse a way from or to what isn't there."""
    if sort_of(first[0], K) is None:
        raise NoName(f"no kind {K} in the first make")
    need_there(second[0], K2)


def look_form(first, K, how):
    """Refuse a how that isn't of the form for a kind's sort, or hasn't just the kind's tags in their order."""
    if sort_of(first[0], K) == "rec":
        right = is_term(how)
    else:
        right = not is_term(how) and [each[0] for each in how] == [part[0] for part in parts_of(first[0], K)]
    if not right:
        raise Lacks(f"the way of {K} hasn't the form for its sort, or not just its tags")


def is_term(how):
    """Whether a how is a term, the form for recs, and not tags with a term each, that for alts."""
    # A term begins with a word, tags with a tuple.
    return len(how) > 0 and isinstance(how[0], str)


def look_terms(first, second, ways, K):
    """Refuse a way of a kind by its terms."""
    K2 = ways[K][0]
    how = ways[K][1]
    parts = parts_of(first[0], K)
    if sort_of(first[0], K) == "rec":
        need_kind(second[0], how, boxes_over(ways, parts), K2)
    else:
        for part, tagged in zip(parts, how):
            need_kind(second[0], tagged[1], boxes_over(ways, [("it", part[1])]), K2)


def made_ways(first, second, told):
    """Told ways and those by rules together, and the list of the first make's kinds that lack one."""
    ways = dict(told)
    lacking = []
    for kind in first[0]:
        K = kind[0]
        if K not in ways:
            how = how_by_rules(second[0], ways, kind)
            if how is None:
                lacking.append(K)
            else:
                ways[K] = (K, how)
    return (ways, lacking)


def how_by_rules(kinds, ways, kind):
    """How a kind goes over to the one of its name among the second make's kinds, None where rules find no way."""
    K = kind[0]
    if sort_of(kinds, K) != kind[1]:
        return None
    if kind[1] == "alt":
        return tags_by_rules(kinds, ways, kind)
    terms = terms_by_rules(kinds, ways, kind[2], parts_of(kinds, K))
    if terms is None:
        return None
    return ("rec", K, terms)


def terms_by_rules(kinds, ways, olds, news):
    """For each of the second make's parts or boxes a term: that of its name among the first make's, or a nought.

    None where one of that name is there, but doesn't go over to just the kind asked for.
    """
    own = dict(olds)
    terms = []
    for x, kind in news:
        if x not in own:
            terms.append(nought_term(kinds, kind))
        elif goes_to(ways, own[x]) == kind:
            terms.append(("box", x))
        else:
            return None
    return tuple(terms)


def tags_by_rules(kinds, ways, kind):
    """For each tag of an alt the same tag of what it holds, None where the second make's hasn't all of them so."""
    K = kind[0]
    theirs = dict(parts_of(kinds, K))
    for tag, inner in kind[2]:
        if tag not in theirs or theirs[tag] != goes_to(ways, inner):
            return None
    return tuple([(tag, ("tag", K, tag, ("box", "it"))) for tag, inner in kind[2]])
