"""Words: names, numbers and what squares are, as texts have them."""

from cotide.grids import LAND, UNTOLD

LETTERS = "abcdefghijklmnopqrstuvwxyz"
FIGURES = "0123456789"
MOST_LETTERS = 8
MOST_FIGURES = 6
# Of each deed the kinds of the things behind its first text.
DEEDS = {
    "begin": ("name", "number", "number", "number"),
    "tell": ("name", "number", "number", "what", "number"),
    "right": ("name", "number", "what"),
    "strike": ("name", "number"),
    "drop": ("name",),
    "lay": ("name", "name", "number", "number", "number"),
}


def is_name(word):
    """Whether a chart can have the name."""
    return 1 <= len(word) <= MOST_LETTERS and all([letter in LETTERS for letter in word])


def read_number(word):
    """The number that a word writes, None where it writes none."""
    if not 1 <= len(word) <= MOST_FIGURES or not all([figure in FIGURES for figure in word]):
        return None
    if len(word) > 1 and word[0] == "0":
        return None
    return int(word)


def read_what(word):
    """What a square is by a word, None where it says nothing of that."""
    if word == "land":
        return LAND
    if word == "sea":
        return UNTOLD
    return read_number(word)


def what_text(one):
    """The word for what a square is."""
    if one == LAND:
        return "land"
    if one == UNTOLD:
        return "sea"
    return str(one)


def read_thing(kind, word):
    """The thing of a kind that a word writes, None where it writes none."""
    if kind == "name":
        return word if is_name(word) else None
    if kind == "what":
        return read_what(word)
    return read_number(word)


def thing_text(kind, thing):
    """The word for a thing of a kind."""
    if kind == "what":
        return what_text(thing)
    return str(thing)


def read_things(kinds, words):
    """The things of these kinds that the words write, None where one does not or where they are more or fewer."""
    if len(words) != len(kinds):
        return None
    things = [read_thing(kind, word) for kind, word in zip(kinds, words)]
    return None if None in things else things
