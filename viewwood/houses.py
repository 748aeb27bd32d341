"""Parts and houses: whether a thing is one, a house's parts by name, and what stands behind a part."""

from viewwood.lines import begins_with_names, inner_lines, lines_fit, pairs_fit
from viewwood.plain import is_name, is_number

MOST_BOXES = 4
MOST_WORKS = 4
MOST_PARTS = 6


def is_part(thing):
    """Whether a plain thing is a part, whatever parts it names."""
    if not isinstance(thing, tuple) or len(thing) != 4:
        return False
    if not is_name(thing[0]) or not boxes_fit(thing[1]):
        return False
    boxes = tuple([box[0] for box in thing[1]])
    # A work stands in no each: it names no turn.
    if not pairs_fit(thing[2], boxes, ()) or len(thing[2]) > MOST_WORKS:
        return False
    return lines_fit(thing[3], boxes)


def boxes_fit(thing):
    """Whether a plain thing is the boxes of a part."""
    if not begins_with_names(thing, 2) or len(thing) > MOST_BOXES:
        return False
    return all([is_number(box[1]) for box in thing])


def is_house(thing):
    """Whether a plain thing is a house."""
    if not isinstance(thing, tuple) or not 1 <= len(thing) <= MOST_PARTS:
        return False
    if not all([is_part(part) for part in thing]) or not begins_with_names(thing, 4):
        return False
    return all([names_only(part, behind(thing, part[0])) for part in thing])


def names_only(part, names):
    """Whether a part's lines name no other parts than these."""
    waiting = [part[3]]
    while waiting:
        lines = waiting.pop()
        for line in lines:
            if line[0] == "part" and line[2] not in names:
                return False
            waiting.extend(inner_lines(line))
    return True


def part_of(house, name):
    """The part of this name, or None."""
    for part in house:
        if part[0] == name:
            return part
    return None


def behind(house, name):
    """The names of the parts that stand behind the one of this name, in the house's order."""
    names = [part[0] for part in house]
    return names[names.index(name) + 1:]
