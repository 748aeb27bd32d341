"""Reckonings: whether a thing is one, and its number and reads by answers and turns."""

from viewwood.plain import cut, is_name, is_number
from viewwood.words import ASKING, JOINING, NAMING

MOST_RECKONINGS = 20


def is_reckoning(thing):
    """Whether a plain thing is a reckoning, of twenty reckonings at most, itself among them."""
    # Counted while going, so that of a great thing no more than twenty are looked at.
    waiting = [thing]
    count = 0
    while waiting:
        count += 1
        inner = inner_things(waiting.pop())
        if inner is None or count > MOST_RECKONINGS:
            return False
        waiting.extend(inner)
    return True


def inner_things(thing):
    """What has to be reckonings within a thing for it to be one, or None where it can't be one."""
    if not isinstance(thing, tuple) or len(thing) == 0:
        return None
    word = thing[0]
    # Asked ahead of the dict, which takes no list or dict as a key.
    if not isinstance(word, str):
        return None
    if word in JOINING:
        return list(thing[1:]) if len(thing) == 1 + JOINING[word] else None
    return [] if stands_alone(thing) else None


def stands_alone(thing):
    """Whether a tuple that begins with a text is a reckoning without others within it."""
    if len(thing) != 2:
        return False
    if thing[0] == "num":
        return is_number(thing[1])
    return thing[0] in NAMING and is_name(thing[1])


def reckoned(reckoning, answers, turns):
    """The tuple (number, reads) of a reckoning."""
    asked = {}
    number = number_of(reckoning, answers, turns, asked)
    return (number, tuple(sorted(asked.items())))


def number_of(reckoning, answers, turns, asked):
    """The number of a reckoning; what it asks, and the answer, is laid into the dict asked."""
    word = reckoning[0]
    if word == "num":
        return reckoning[1]
    if word == "turn":
        return turns[reckoning[1]]
    if word in ASKING:
        question = (word, reckoning[1])
        asked[question] = answers.get(question, 0)
        return asked[question]
    first = number_of(reckoning[1], answers, turns, asked)
    if word == "pick":
        # The other one is not reckoned: it asks nothing.
        taken = reckoning[3] if first == 0 else reckoning[2]
        return number_of(taken, answers, turns, asked)
    second = number_of(reckoning[2], answers, turns, asked)
    return joined(word, first, second)


def joined(word, first, second):
    """The number that add, times or less makes of two."""
    if word == "add":
        return cut(first + second)
    if word == "times":
        return cut(first * second)
    return 1 if first < second else 0
