"""Plain things: numbers, names, what is alike, and the cut of numbers."""

# 10 ** 9, the bound of numbers either way.
BOUND = 1000000000

LETTERS = "abcdefghijklmnopqrstuvwxyz"
LONGEST_NAME = 8


def is_number(thing):
    """Whether a plain thing is a whole number within the bounds."""
    # True and False are ints to Python, but no numbers here.
    if isinstance(thing, bool) or not isinstance(thing, int):
        return False
    return -BOUND <= thing <= BOUND


def is_name(thing):
    """Whether a plain thing is a text of one to eight small letters."""
    if not isinstance(thing, str) or not 1 <= len(thing) <= LONGEST_NAME:
        return False
    return all([sign in LETTERS for sign in thing])


def cut(number):
    """The number itself, or the bound that it lies beyond."""
    return max(-BOUND, min(BOUND, number))


def alike(one, other):
    """Whether two plain things are of one kind and, part by part, alike."""
    # A list of pairs in the place of recursion: things may lie a hundred within one another.
    pairs = [(one, other)]
    while pairs:
        pair = pairs.pop()
        inner = pairs_within(pair[0], pair[1])
        if inner is None:
            return False
        pairs.extend(inner)
    return True


def pairs_within(one, other):
    """The pairs that have to be alike for these two to be so, or None where they can't be."""
    kind = kind_of(one)
    if kind != kind_of(other):
        return None
    if kind == "tuple" or kind == "list":
        return list(zip(one, other)) if len(one) == len(other) else None
    if kind == "dict":
        return dict_pairs(one, other)
    return [] if one == other else None


def dict_pairs(one, other):
    """The pairs of two dicts: the keys that Python finds equal, and what stands there."""
    if len(one) != len(other):
        return None
    # Python finds True under 1: so the other's own key is looked at, too.
    own = {}
    for key in other:
        own[key] = key
    pairs = []
    for key in one:
        if key not in own:
            return None
        pairs.append((key, own[key]))
        pairs.append((one[key], other[key]))
    return pairs


def kind_of(thing):
    """The kind of a plain thing, as a text."""
    if isinstance(thing, bool):
        return "truth"
    if isinstance(thing, int):
        return "number"
    if isinstance(thing, str):
        return "text"
    if isinstance(thing, tuple):
        return "tuple"
    if isinstance(thing, list):
        return "list"
    if isinstance(thing, dict):
        return "dict"
    return "none"
