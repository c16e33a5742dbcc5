"""Terms and their texts: term_text writes a term, term_of reads one.

A text is read in two goes: first its words and brackets become a tree, a word
being a text and a bracket a list of such trees, then the tree becomes a term.
"""

from swapstride.errors import BadText
from swapstride.words import is_name, is_number

OPS = ("+", "-", "*", "<", "=")
DEEPEST = 20
MOST_ARMS = 4


def term_text(term):
    """The one text of a term."""
    if term[0] == "num":
        return str(term[1])
    if term[0] == "box":
        return term[1]
    return bracketed(inner_texts(term))


def bracketed(texts):
    """Texts, parted by blanks, within one bracket."""
    inside = " ".join(texts)
    return f"({inside})"


def inner_texts(term):
    """The texts of what stands in the bracket of a term that is neither num nor box."""
    head = term[0]
    if head == "op":
        return [term[1]] + term_texts(term[2:])
    if head == "rec":
        return [head, term[1]] + term_texts(term[2])
    if head == "get":
        return [head, term_text(term[1]), term[2]]
    if head == "tag":
        return [head, term[1], term[2], term_text(term[3])]
    if head == "case":
        return [head, term_text(term[1])] + [arm_text(arm) for arm in term[2]]
    return [head] + term_texts(term[1:])


def term_texts(terms):
    """The text of each of some terms."""
    return [term_text(term) for term in terms]


def arm_text(arm):
    """The text of an arm of a case."""
    return bracketed([arm[0], arm[1], term_text(arm[2])])


def term_of(text):
    """The term that a text writes, or BadText at 0."""
    return term_with(text, ())


def term_with(text, more):
    """The term that a text writes where some more words are boxes beside the names."""
    trees = trees_of(text)
    need(len(trees) == 1)
    return term_from(trees[0], more)


def need(holds):
    """Refuse the text where this does not hold; a term, and a row by itself, is its own row 0."""
    if not holds:
        raise BadText(0)


def trees_of(text):
    """The trees of a text: its words, and for each outermost bracket the list of what stands in it."""
    pile = [[]]
    for word in text.split(" "):
        put_word(pile, word)
    need(len(pile) == 1)
    return pile[0]


def put_word(pile, word):
    """Put a word, with the brackets beside it, into a pile: the outside at its foot, above it the open brackets."""
    core = word.rstrip(")")
    closed = len(word) - len(core)
    if core.startswith("("):
        need(len(pile) <= DEEPEST)
        pile.append([])
        core = core[1:]
    # No bracket begins with another one. What is left of a wrong blank or bracket, be it no sign, becomes
    # a word here: it is no number, no name and no head of a bracket, so the term is refused by it.
    pile[-1].append(core)
    close_brackets(pile, closed)


def close_brackets(pile, many):
    """Put the innermost open brackets, as many as told, each into the one around it."""
    need(many < len(pile))
    while many > 0:
        inner = pile.pop()
        pile[-1].append(inner)
        many = many - 1


def term_from(tree, more):
    """The term of a tree."""
    if isinstance(tree, str):
        return leaf_from(tree, more)
    head = tree[0]
    if head in OPS:
        need(len(tree) == 3)
        return ("op", head) + terms_from(tree[1:], more)
    if head == "rec":
        need(len(tree) >= 2)
        return ("rec", name_from(tree[1]), terms_from(tree[2:], more))
    if head == "get":
        need(len(tree) == 3)
        return ("get", term_from(tree[1], more), name_from(tree[2]))
    if head == "tag":
        need(len(tree) == 4)
        return ("tag", name_from(tree[1]), name_from(tree[2]), term_from(tree[3], more))
    if head == "case":
        need(3 <= len(tree) <= 2 + MOST_ARMS)
        return ("case", term_from(tree[1], more), tuple([arm_from(each, more) for each in tree[2:]]))
    need(head == "if" and len(tree) == 4)
    return ("if",) + terms_from(tree[1:], more)


def terms_from(trees, more):
    """The term of each of some trees."""
    return tuple([term_from(tree, more) for tree in trees])


def leaf_from(word, more):
    """The term of a word by itself."""
    if is_number(word):
        return ("num", int(word))
    if word in more:
        return ("box", word)
    return ("box", name_from(word))


def name_from(tree):
    """The name that a tree is."""
    need(isinstance(tree, str) and is_name(tree))
    return tree


def arm_from(tree, more):
    """The arm of a case that a tree is."""
    need(isinstance(tree, list) and len(tree) == 3)
    return (name_from(tree[0]), name_from(tree[1]), term_from(tree[2], more))
