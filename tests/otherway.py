"""What the program tells, told another way, for the tests to hold both beside one another."""

from samples import BOUND


# A second drawing of parts: lines are laid out flat, then spots are counted by looking back.
def number_by(reckoning, answers, turns, asked):
    word, rest = reckoning[0], reckoning[1:]
    if word == "num":
        return rest[0]
    if word == "turn":
        return dict(turns)[rest[0]]
    if word in ("take", "box", "down"):
        asked.add(reckoning)
        return answers.get(reckoning, 0)
    if word == "pick":
        return number_by(rest[1] if number_by(rest[0], answers, turns, asked) else rest[2], answers, turns, asked)
    one, other = [number_by(inner, answers, turns, asked) for inner in rest]
    if word == "less":
        return int(one < other)
    return min(BOUND, max(-BOUND, one + other if word == "add" else one * other))


def flat(lines, answers, turns, asked):
    for line in lines:
        if line[0] == "when":
            side = 2 if number_by(line[1], answers, turns, asked) else 3
            yield from flat(line[side], answers, turns, asked)
        elif line[0] == "each":
            for turn in range(8):
                if turn < number_by(line[2], answers, turns, asked):
                    yield from flat(line[3], answers, turns + ((line[1], turn),), asked)
        else:
            yield line, turns


def row_by(lines, answers, turns, asked):
    row = []
    for line, around in flat(lines, answers, turns, asked):
        def number(reckoning):
            return number_by(reckoning, answers, around, asked)
        key = None if line[1] is None else number(line[1])
        head = (line[0], (key, [thing[1][0] for thing in row].count(key)), line[2])
        if line[0] == "give":
            row.append(head + (number(line[3]), row_by(line[4], answers, around, asked)))
            continue
        head += (tuple((name, number(dict(line[3])[name])) for name in sorted(dict(line[3]))),)
        if line[0] == "plain":
            head += (tuple(hand[:3] + (tuple(change[:2] + (number(change[2]),) for change in hand[3]),)
                           for hand in line[4]), row_by(line[5], answers, around, asked))
        row.append(head)
    return tuple(row)


def drawn_by(whole, answers):
    asked = set()
    row = row_by(whole[3], answers, (), asked)
    works = tuple((name, number_by(reckoning, answers, (), asked)) for name, reckoning in whole[2])
    return (tuple((question, answers.get(question, 0)) for question in sorted(asked)), row, works)


# Each want of a row with what leads to it: the wants around it from outside in, itself at last.
def ways_in(row, around=()):
    for thing in row:
        yield around + (thing,)
        if thing[0] != "part":
            yield from ways_in(thing[-1], around + (thing,))


def parts_by(row):
    told = []
    for way in ways_in(row):
        if way[-1][0] == "part":
            gives = [thing for thing in way if thing[0] == "give"]
            downs = {name: [thing[3] for thing in gives if thing[2] == name][-1] for name in {g[2] for g in gives}}
            told.append((tuple(thing[1] for thing in way), way[-1][2], way[-1][3], tuple(sorted(downs.items()))))
    return told


class TooGreat(Exception):
    pass


def answers_by(house, values, path, name, gives, downs):
    boxes = [part[1] for part in house if part[0] == name][0]
    if path in values and values[path][0] == name:
        boxes = values[path][1]
    told = {("take", pair[0]): pair[1] for pair in gives}
    told.update({("down", pair[0]): pair[1] for pair in downs})
    told.update({("box", pair[0]): pair[1] for pair in boxes})
    return told


def entries_by(house, values, asked):
    """The entry of a part that is asked for, then all that is asked for within it, by recursion."""
    whole = [part for part in house if part[0] == asked[1]][0]
    piece = drawn_by(whole, answers_by(house, values, *asked))
    yield asked + (piece,)
    for spots, name, gives, downs in parts_by(piece[1]):
        hidden = [pair for pair in asked[3] if pair[0] not in dict(downs)]
        yield from entries_by(house, values, (asked[0] + spots, name, gives, tuple(sorted(hidden + list(downs)))))


def drawing_by(house, values, most=200):
    """The drawing afresh; TooGreat where it has more things than that, or is more than twenty deep."""
    told, count = [], 0
    for entry in entries_by(house, values, ((), house[0][0], (), ())):
        told.append(entry)
        count += len(list(ways_in(entry[4][1])))
        if count > most or len(entry[0]) > 20:
            raise TooGreat
    return told


def anew_by(house, values, old, new):
    """The paths of those whose like the old drawing has not, or with a read that is now answered otherwise."""
    told = []
    for entry in new:
        answers = answers_by(house, values, *entry[:4])
        like = [inner for inner in old if inner[:2] == entry[:2]]
        if not like or any(answers.get(question, 0) != number for question, number in like[0][4][0]):
            told.append(entry[0])
    return told


# A second way to trees: all plain wants of all entries, each with its places in the rows that lead to it, are sorted
# by these; then each is laid into the nearest one above it.
def tree_by(drawing):
    places, found = {(): ()}, []
    for path, name, gives, downs, piece in drawing:
        for way, spots in placed_ways(piece[1], places[path], path):
            if way[-1][0][0] == "part":
                places[spots] = tuple(place for thing, place in way[1:])
            elif way[-1][0][0] == "plain":
                found.append((tuple(place for thing, place in way[1:]), spots, path, way[-1][0]))
    return laid_in(sorted(found, key=lambda one: one[0]), (), ())


def placed_ways(row, places, spots):
    """Each want in a row as (way, spots): pairs (want, place) that lead to it, from the root's row on."""
    def ways(inner, way, led):
        for place, thing in enumerate(inner):
            here = way + ((thing, place),)
            yield here, led + (thing[1],)
            if thing[0] != "part":
                yield from ways(thing[-1], here, led + (thing[1],))
    return ways(row, ((None, None),) + tuple((None, place) for place in places), spots)


def laid_in(found, places, spots):
    """The tree of those found at and behind these places, which the spots lead to."""
    told = []
    inner = [one for one in found if one[0][:len(places)] == places and one[0] != places]
    for one in inner:
        if not any(one[0][:len(other[0])] == other[0] for other in inner if other is not one):
            hands = tuple(hand[:3] + (one[2],) + hand[3:] for hand in one[3][4])
            told.append((one[1][len(spots):], (one[3][2], one[3][3], hands, laid_in(inner, one[0], one[1]))))
    return tuple(told)


def boxes_by(tree, around=()):
    """All boxes of a tree as (address, box), outer ones ahead of inner ones."""
    for label, box in tree:
        yield around + (label,), box
        yield from boxes_by(box[3], around + (label,))


def text_by(address, box):
    """The text of a box at an address."""
    text = str(len(address) - 1) + " "
    for key, nth in address[-1]:
        text += "%s#%d/" % ("-" if key is None else key, nth)
    text = text[:-1] + " " + box[0]
    for name, number in box[1]:
        text += " %s=%d" % (name, number)
    for hand in box[2]:
        text += " @%s" % hand[0]
    return text
