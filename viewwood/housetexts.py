"""House texts: a house shown as rows, and rows read as the house that they show."""

from viewwood.errors import NoText
from viewwood.houses import is_house
from viewwood.showing import RowReader, shown_key, shown_reckoning
from viewwood.words import CHANGING

RANKS = ("1", "2", "3")

# The rows that stand right behind some rows alone, by their first words and those of the rows ahead.
RIGHT_BEHIND = {
    "box": ("part", "box"),
    "work": ("part", "box", "work"),
    "set": ("plain", "set"),
    "hand": ("plain", "set", "hand", "change"),
    "change": ("hand", "change"),
    "with": ("draw", "with"),
}

# The rows that begin a line.
BEGINNING = ("plain", "draw", "give", "when", "each")


def shown_house(house):
    """The rows that show a house."""
    rows = []
    for part in house:
        rows.append(" ".join(["part", part[0]]))
        rows.extend([" ".join(["box", box[0], str(box[1])]) for box in part[1]])
        rows.extend(shown_pairs("work", part[2]))
        rows.extend(shown_lines(part[3]))
    return rows


def shown_pairs(word, pairs):
    """The rows of pairs (name, reckoning), each with this word ahead."""
    return [" ".join([word, pair[0], shown_reckoning(pair[1])]) for pair in pairs]


def shown_lines(lines):
    """The rows of lines."""
    rows = []
    for line in lines:
        rows.extend(shown_line(line))
    return rows


def shown_line(line):
    """The rows of a line."""
    if line[0] == "plain":
        head = [" ".join(["plain", line[2], shown_key(line[1])])]
        return head + shown_pairs("set", line[3]) + shown_hands(line[4]) + shown_lines(line[5]) + ["end"]
    if line[0] == "part":
        return [" ".join(["draw", line[2], shown_key(line[1])])] + shown_pairs("with", line[3])
    if line[0] == "give":
        head = [" ".join(["give", line[2], shown_reckoning(line[3]), shown_key(line[1])])]
        return head + shown_lines(line[4]) + ["end"]
    if line[0] == "when":
        head = [" ".join(["when", shown_reckoning(line[1])])]
        return head + shown_lines(line[2]) + ["else"] + shown_lines(line[3]) + ["end"]
    head = [" ".join(["each", line[1], shown_reckoning(line[2])])]
    return head + shown_lines(line[3]) + ["end"]


def shown_hands(hands):
    """The rows of hands, each with those of its changes."""
    rows = []
    for hand in hands:
        rows.append(" ".join(["hand", hand[0], str(hand[1]), "last" if hand[2] else "on"]))
        rows.extend([" ".join(["change", change[0], change[1], shown_reckoning(change[2])]) for change in hand[3]])
    return rows


def read_house(rows):
    """The house that rows show; where they show none they are refused with NoText."""
    reader = HouseReader()
    for line, row in enumerate(rows):
        reader.read(RowReader(row, line))
    house = reader.house()
    if house is None or not is_house(house):
        raise NoText(len(rows), 0)
    return house


class HouseReader:
    """Reads rows, one behind the other, as the parts of a house."""

    def __init__(self):
        self.parts = []
        # The part that is read, then the lines around the next row, from outside in: lists that are still filled,
        # at the end of each the list that takes the next lines.
        self.around = []
        self.ahead = ""

    def house(self):
        """The house that was read, or None where rows lack."""
        if len(self.around) != 1:
            return None
        return tuple(self.parts + [closed(self.around[0])])

    def read(self, row):
        """Reads the next row."""
        word = row.next_word()
        if not self.may_stand(word):
            row.refuse()
        if word in BEGINNING:
            self.begin(word, row)
        elif word in RIGHT_BEHIND:
            self.fill(word, row)
        elif word == "part":
            self.begin_part(row)
        elif word == "else":
            self.around[-1].append([])
        else:
            self.end_line()
        row.finish()
        self.ahead = word

    def may_stand(self, word):
        """Whether a row of this first word may stand behind those that were read."""
        if word in RIGHT_BEHIND:
            return self.ahead in RIGHT_BEHIND[word]
        if word in BEGINNING:
            return len(self.around) > 0
        if word == "part":
            return len(self.around) < 2
        # The outermost one is the part: it has neither an else nor an end.
        if len(self.around) < 2:
            return False
        waits = self.around[-1][0] == "when" and len(self.around[-1]) == 3
        return word == "else" and waits or word == "end" and not waits

    def begin_part(self, row):
        """Begins a part, behind the one that was read."""
        name = row.name()
        self.parts.extend([closed(part) for part in self.around])
        self.around = [[name, [], [], []]]

    def begin(self, word, row):
        """Begins a line; one that others may stand within is around the next rows."""
        line = begun_line(word, row)
        if word == "draw":
            self.around[-1][-1].append(line)
        else:
            self.around.append(line)

    def end_line(self):
        """Ends the inmost line, which comes to stand behind those ahead of it."""
        line = closed(self.around.pop())
        self.around[-1][-1].append(line)

    def fill(self, word, row):
        """Reads a row that fills what the rows right ahead of it have begun."""
        name = row.name()
        inmost = self.around[-1]
        if word == "box":
            inmost[1].append((name, row.number()))
        elif word == "work":
            inmost[2].append((name, row.reckoning()))
        elif word == "set":
            inmost[3].append((name, row.reckoning()))
        elif word == "with":
            inmost[-1][-1][3].append((name, row.reckoning()))
        elif word == "hand":
            rank = int(row.one_of(RANKS))
            inmost[4].append([name, rank, row.one_of(("last", "on")) == "last", []])
        else:
            changing = row.one_of(CHANGING)
            inmost[4][-1][3].append((name, changing, row.reckoning()))


def begun_line(word, row):
    """The line that a row begins, as a list that is still filled."""
    if word == "when":
        return ["when", row.reckoning(), []]
    name = row.name()
    if word == "each":
        return ["each", name, row.reckoning(), []]
    if word == "give":
        number = row.reckoning()
        return ["give", row.key(), name, number, []]
    if word == "draw":
        return ["part", row.key(), name, []]
    return ["plain", row.key(), name, [], [], []]


def closed(thing):
    """A thing that was filled, with tuples in the place of its lists."""
    # Lines within it have been closed ahead of it: so this goes no deeper than from a line to a hand's changes.
    if isinstance(thing, list):
        return tuple([closed(inner) for inner in thing])
    return thing
