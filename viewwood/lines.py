"""Lines: whether a thing is lines of a part that has boxes of told names."""

from viewwood.plain import is_name, is_number
from viewwood.reckonings import inner_things, is_reckoning
from viewwood.words import CHANGING, INNER_PLACES, LINE_SIZES

MOST_LINES = 30
MOST_DEEP = 6
MOST_EACHES = 2
LAST_RANK = 3


def lines_fit(lines, boxes):
    """Whether a plain thing is lines of a part with boxes of these names, whatever parts they name."""
    # What waits are tuples (lines, how many lines stand around them, the turns of the eaches around them).
    waiting = [(lines, 0, ())]
    count = 0
    while waiting:
        place = waiting.pop()
        if not isinstance(place[0], tuple):
            return False
        for line in place[0]:
            count += 1
            if count > MOST_LINES or place[1] >= MOST_DEEP or not line_fits(line, boxes, place[2]):
                return False
            turns = turns_within(line, place[2])
            waiting.extend([(inner, place[1] + 1, turns) for inner in inner_lines(line)])
    return True


def inner_lines(line):
    """What stands in a line in the places where lines are to stand."""
    return [line[place] for place in INNER_PLACES[line[0]]]


def turns_within(line, turns):
    """The turns that may be named within a line, by those that may be named in it."""
    return turns + (line[1],) if line[0] == "each" else turns


def line_fits(line, boxes, turns):
    """Whether a plain thing is a line, whatever stands in the places where lines are to stand."""
    if not isinstance(line, tuple) or len(line) == 0 or not isinstance(line[0], str):
        return False
    word = line[0]
    if len(line) != LINE_SIZES.get(word, 0):
        return False
    if word == "when":
        return reckoning_fits(line[1], boxes, turns)
    if word == "each":
        return is_name(line[1]) and reckoning_fits(line[2], boxes, turns) and len(turns) < MOST_EACHES
    # The other three sorts begin alike, with a key and a name.
    if not key_fits(line[1], boxes, turns) or not is_name(line[2]):
        return False
    if word == "give":
        return reckoning_fits(line[3], boxes, turns)
    if word == "plain" and not hands_fit(line[4], boxes, turns):
        return False
    return pairs_fit(line[3], boxes, turns)


def key_fits(key, boxes, turns):
    """Whether a plain thing is a line's key."""
    return key is None or reckoning_fits(key, boxes, turns)


def reckoning_fits(thing, boxes, turns):
    """Whether a plain thing is a reckoning that names no other boxes and turns than these."""
    if not is_reckoning(thing):
        return False
    waiting = [thing]
    while waiting:
        inner = waiting.pop()
        if inner[0] == "box" and inner[1] not in boxes:
            return False
        if inner[0] == "turn" and inner[1] not in turns:
            return False
        waiting.extend(inner_things(inner))
    return True


def pairs_fit(thing, boxes, turns):
    """Whether a plain thing is a tuple of (name, reckoning), names unlike."""
    if not begins_with_names(thing, 2):
        return False
    return all([reckoning_fits(pair[1], boxes, turns) for pair in thing])


def begins_with_names(thing, size):
    """Whether a plain thing is a tuple of tuples of this size, each with another name ahead."""
    if not isinstance(thing, tuple):
        return False
    names = {}
    for inner in thing:
        if not isinstance(inner, tuple) or len(inner) != size:
            return False
        if not is_name(inner[0]) or inner[0] in names:
            return False
        names[inner[0]] = True
    return True


def hands_fit(thing, boxes, turns):
    """Whether a plain thing is the hands of a plain line."""
    if not begins_with_names(thing, 4):
        return False
    return all([hand_fits(hand, boxes, turns) for hand in thing])


def hand_fits(hand, boxes, turns):
    """Whether a tuple of four with a name ahead is a hand."""
    if not is_number(hand[1]) or not 1 <= hand[1] <= LAST_RANK:
        return False
    if not isinstance(hand[2], bool) or not isinstance(hand[3], tuple):
        return False
    return all([change_fits(change, boxes, turns) for change in hand[3]])


def change_fits(change, boxes, turns):
    """Whether a plain thing is a change of one of these boxes."""
    if not isinstance(change, tuple) or len(change) != 3:
        return False
    return change[0] in boxes and change[1] in CHANGING and reckoning_fits(change[2], boxes, turns)
