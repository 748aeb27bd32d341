"""Houses with values, made by told starts, whose drawings keep to the bounds."""

import functools

from otherway import TooGreat, drawing_by
from samples import Maker

# Few names and small numbers, so that what one part gives another one asks, and keys are often alike.
POOL = ("a", "b", "c", "d", "e", "f")
NUMBERS = (0, 0, 1, 1, 1, 2, 2, 3, -1)
SORTS = ("plain", "plain", "part", "part", "part", "give", "give", "when", "each")


class Case:
    """A house and several values for it, each one of another drawing, most of them a little unlike the one ahead."""

    def __init__(self, start):
        self.maker = Maker(start, POOL, NUMBERS, SORTS, 5 + start % 4)
        self.house = self.maker.house()
        self.values = []
        self.drawings = []

    def add(self, values):
        drawing = drawing_by(self.house, values)
        self.values.append(values)
        self.drawings.append(drawing)

    def fill(self, count):
        self.add({})
        while len(self.values) < count:
            self.add(self.turned(self.values[-1], self.drawings[-1]))

    def boxes(self, name):
        """Some numbers for the boxes of the part of this name."""
        first = [part[1] for part in self.house if part[0] == name][0]
        return tuple((box, self.maker.number() if self.maker.random.random() < 0.6 else number)
                     for box, number in first)

    def turned(self, values, drawing):
        """Values with some paths otherwise: of entries, some under another part's name, and of nobody."""
        told = dict(values)
        names = [part[0] for part in self.house]
        for place in range(self.maker.random.randint(1, 3)):
            entry = self.maker.random.choice(drawing)
            name = entry[1] if self.maker.random.random() < 0.8 else self.maker.random.choice(names)
            told[entry[0]] = (name, self.boxes(name))
        nobody = self.maker.random.choice(drawing)[0] + ((9, 9),)
        told[nobody] = (names[-1], self.boxes(names[-1]))
        return told


@functools.lru_cache(None)
def made_cases(starts, least=2, count=5):
    """The cases of these many starts that keep to the bounds and draw at least so many parts at some time."""
    told = []
    for start in range(starts):
        case = Case(start)
        try:
            case.fill(count)
        except TooGreat:
            continue
        if max(len(drawing) for drawing in case.drawings) >= least:
            told.append(case)
    return told
