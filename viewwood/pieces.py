"""Pieces: a part drawn by answers, and whether a thing is let by as a part's piece."""

from viewwood.plain import alike, is_name, is_number
from viewwood.reckonings import number_of
from viewwood.words import ASKING

MOST_TURNS = 8


class Drawer:
    """Draws by answers, and keeps what was asked of them."""

    def __init__(self, answers):
        self.answers = answers
        self.asked = {}

    def number(self, reckoning, turns):
        """The number of a reckoning."""
        return number_of(reckoning, self.answers, turns, self.asked)

    def numbered(self, pairs, turns):
        """The pairs (name, reckoning) as pairs (name, number), in their order."""
        return [(pair[0], self.number(pair[1], turns)) for pair in pairs]

    def row(self, lines, turns):
        """The row of wants that lines bring."""
        row = []
        self.bring(lines, turns, row, {})
        return tuple(row)

    def bring(self, lines, turns, row, counts):
        """Lays what lines bring behind a row, in which so many things of each key stand."""
        for line in lines:
            if line[0] == "when":
                taken = line[3] if self.number(line[1], turns) == 0 else line[2]
                self.bring(taken, turns, row, counts)
            elif line[0] == "each":
                self.bring_each(line, turns, row, counts)
            else:
                row.append(self.want(line, turns, counts))

    def bring_each(self, line, turns, row, counts):
        """Lays what an each line brings behind a row, turn by turn."""
        count = min(MOST_TURNS, self.number(line[2], turns))
        for turn in range(count):
            # A copy: an each around may have the same name, and its turn goes on behind this line.
            inner = dict(turns)
            inner[line[1]] = turn
            self.bring(line[3], inner, row, counts)

    def want(self, line, turns, counts):
        """The want that a plain, a part or a give line brings."""
        spot = self.spot(line[1], turns, counts)
        if line[0] == "give":
            return ("give", spot, line[2], self.number(line[3], turns), self.row(line[4], turns))
        pairs = tuple(sorted(self.numbered(line[3], turns)))
        if line[0] == "part":
            return ("part", spot, line[2], pairs)
        hands = tuple([self.hand(hand, turns) for hand in line[4]])
        return ("plain", spot, line[2], pairs, hands, self.row(line[5], turns))

    def spot(self, key, turns, counts):
        """The spot of the next thing of a key in a row, which is counted with it."""
        told = None if key is None else self.number(key, turns)
        nth = counts.get(told, 0)
        counts[told] = nth + 1
        return (told, nth)

    def hand(self, hand, turns):
        """A hand with the numbers of its changes."""
        changes = [(change[0], change[1], self.number(change[2], turns)) for change in hand[3]]
        return (hand[0], hand[1], hand[2], tuple(changes))


def drawn(part, answers):
    """The piece that a part draws by answers."""
    drawer = Drawer(answers)
    row = drawer.row(part[3], {})
    works = tuple(drawer.numbered(part[2], {}))
    return (tuple(sorted(drawer.asked.items())), row, works)


def lets_piece(part, piece):
    """Whether a plain thing is alike to the piece that the part draws by just the thing's own reads."""
    if not isinstance(piece, tuple) or len(piece) != 3 or not reads_fit(piece[0]):
        return False
    # Where one is asked twice, or out of order, the drawn reads are unlike: they are sorted, each once.
    return alike(piece, drawn(part, dict(piece[0])))


def reads_fit(thing):
    """Whether a plain thing is a tuple of ((sort, name), number), in whatever order."""
    return isinstance(thing, tuple) and all([read_fits(read) for read in thing])


def read_fits(thing):
    """Whether a plain thing is a tuple ((sort, name), number)."""
    if not isinstance(thing, tuple) or len(thing) != 2 or not is_number(thing[1]):
        return False
    question = thing[0]
    if not isinstance(question, tuple) or len(question) != 2:
        return False
    return question[0] in ASKING and is_name(question[1])
