"""Parts and houses for the tests: one of each sort written out, and others made by a told start."""

import random

BOUND = 10 ** 9
NAMES = ("a", "b", "cc", "end", "part", "box", "add", "abcdefgh", "set", "when", "take", "else", "num")
NUMBERS = (0, 0, 1, 1, 2, 3, -1, 7, 8, 9, 12, -40, BOUND, -BOUND, BOUND - 1)
SORTS = ("plain", "plain", "part", "give", "when", "each", "each")
ONE = ("num", 1)

# Each sort of line, key, hand, change and reckoning stands here.
ITEM = (
    "item", (("on", 0), ("seen", -4)), (("ring", ("add", ("box", "on"), ("down", "loud"))),),
    (("plain", None, "li", (("n", ("take", "n")), ("dark", ("down", "theme"))),
      (("tap", 1, True, (("on", "set", ("less", ("box", "on"), ("num", 1))),)),), ()),))
ROOT = (
    "root", (("count", 3), ("sel", -1), ("big", BOUND), ("low", -BOUND)),
    (("beep", ("add", ("box", "count"), ("take", "vol"))), ("hum", ("num", 0))),
    (("plain", None, "page", (("w", ("num", 10)), ("h", ("times", ("box", "count"), ("num", 2)))),
      (("tap", 2, True, (("count", "add", ("num", 1)), ("sel", "set", ("num", 0)))),
       ("key", 1, False, ()),
       ("drag", 3, False, (("sel", "times", ("num", -2)),))),
      (("each", "i", ("box", "count"),
        (("part", ("turn", "i"), "item", (("n", ("turn", "i")), ("big", ("less", ("num", 3), ("turn", "i"))))),
         ("each", "j", ("turn", "i"),
          (("plain", ("add", ("turn", "i"), ("turn", "j")), "dot", (("x", ("turn", "j")),), (), ()),)))),)),
     ("give", ("box", "sel"), "theme", ("pick", ("box", "sel"), ("num", 7), ("down", "theme")),
      (("when", ("less", ("box", "count"), ("num", 4)),
        (("part", ("num", 5), "item", ()),),
        (("plain", None, "note", (), (), ()), ("part", None, "foot", ()))),))))
FOOT = ("foot", (), (), ())
HOUSE = (ROOT, ITEM, FOOT)
ROWS = """part root
box count 3
box sel -1
box big 1000000000
box low -1000000000
work beep add box count take vol
work hum 0
plain page -
set w 10
set h times box count 2
hand tap 2 last
change count add 1
change sel set 0
hand key 1 on
hand drag 3 on
change sel times -2
each i box count
draw item turn i
with n turn i
with big less 3 turn i
each j turn i
plain dot add turn i turn j
set x turn j
end
end
end
end
give theme pick box sel 7 down theme box sel
when less box count 4
draw item 5
else
plain note -
end
draw foot -
end
end
part item
box on 0
box seen -4
work ring add box on down loud
plain li -
set n take n
set dark down theme
hand tap 1 last
change on set less box on 1
end
part foot""".split("\n")


def size(reckoning):
    """How many reckonings there are in one, itself among them."""
    return 1 + sum(size(inner) for inner in reckoning[1:] if isinstance(inner, tuple))


def chain(count, leaf=ONE):
    """A reckoning of so many reckonings, any number but 2, with the leaf at its inmost."""
    made = leaf if count % 2 else ("pick", ONE, ONE, leaf)
    while size(made) < count:
        made = ("add", ONE, made)
    return made


def swapped(thing, place, put):
    """A tuple with another thing at a place."""
    return thing[:place] + (put,) + thing[place + 1:]


def variants(thing, change):
    """All things that come of one by changing it, or one thing within it, once; change tells a list."""
    told = list(change(thing))
    if isinstance(thing, tuple):
        for place, inner in enumerate(thing):
            told.extend(swapped(thing, place, put) for put in variants(inner, change))
    return told


def as_list(thing):
    return [list(thing)] if isinstance(thing, tuple) else []


def as_truth(thing):
    return [True, False] if isinstance(thing, int) and not isinstance(thing, bool) else []


def as_no_truth(thing):
    return [int(thing), str(thing), None] if isinstance(thing, bool) else []


def as_no_text(thing):
    return [(thing,), [thing], {thing: 1}, 1, True, thing.upper(), thing + " "] if isinstance(thing, str) else []


def as_longer(thing):
    return [thing + thing[-1:], (None,) + thing] if isinstance(thing, tuple) and thing else []


def as_shorter(thing):
    return [thing[1:], thing[:-1]] if isinstance(thing, tuple) and thing else []


def as_resized(thing):
    """One thing fewer or more; what begins with a text is never of a free length."""
    if not isinstance(thing, tuple) or not thing or not isinstance(thing[0], str):
        return []
    fewer = [thing[:place] + thing[place + 1:] for place in range(len(thing))]
    return fewer + [thing[:place] + thing[place - 1:] for place in range(1, len(thing) + 1)]


def as_holed(thing):
    """None between, ahead of or behind a tuple's things, which is right nowhere in a house."""
    if not isinstance(thing, tuple):
        return []
    return [thing[:place] + (None,) + thing[place:] for place in range(len(thing) + 1)]


class Maker:
    """Makes parts and houses of all sorts within the bounds; the same ones of the same start."""

    def __init__(self, start, pool=NAMES, numbers=NUMBERS, sorts=SORTS, most_lines=30):
        self.random = random.Random(start)
        self.pool = pool
        self.numbers = numbers
        self.sorts = sorts
        self.most_lines = most_lines
        self.room = 0

    def names(self, most):
        return self.random.sample(self.pool, self.random.randint(0, most))

    def number(self):
        return self.random.choice(self.numbers)

    def leaf(self, boxes, turns):
        sort = self.random.choice(("num", "num", "take", "down", "box", "turn"))
        if sort == "box" and boxes:
            return ("box", self.random.choice(boxes))
        if sort == "turn" and turns:
            return ("turn", self.random.choice(turns))
        if sort in ("take", "down"):
            return (sort, self.random.choice(self.pool))
        return ("num", self.number())

    def reckoning(self, boxes, turns, deep=2):
        if deep == 0 or self.random.random() < 0.5:
            return self.leaf(boxes, turns)
        word = self.random.choice(("add", "times", "less", "pick"))
        count = 3 if word == "pick" else 2
        return (word,) + tuple(self.reckoning(boxes, turns, deep - 1) for place in range(count))

    def key(self, boxes, turns):
        return None if self.random.random() < 0.4 else self.reckoning(boxes, turns, 1)

    def pairs(self, boxes, turns, most=3):
        return tuple((name, self.reckoning(boxes, turns)) for name in self.names(most))

    def hand(self, event, boxes, turns):
        count = self.random.randint(0, 2) if boxes else 0
        changes = tuple((self.random.choice(boxes), self.random.choice(("set", "add", "times")),
                         self.reckoning(boxes, turns)) for place in range(count))
        return (event, self.random.randint(1, 3), self.random.random() < 0.5, changes)

    def lines(self, boxes, parts, turns=(), deep=6):
        told = []
        while deep and self.room and self.random.random() < 0.7:
            self.room -= 1
            told.append(self.line(boxes, parts, turns, deep - 1))
        return tuple(told)

    def line(self, boxes, parts, turns, deep):
        sort = self.random.choice(self.sorts)
        if sort == "when":
            return (sort, self.reckoning(boxes, turns), self.lines(boxes, parts, turns, deep),
                    self.lines(boxes, parts, turns, deep))
        if sort == "each" and len(turns) < 2:
            name = self.random.choice(self.pool[:3])
            return (sort, name, self.reckoning(boxes, turns), self.lines(boxes, parts, turns + (name,), deep))
        key = self.key(boxes, turns)
        if sort == "part" and parts:
            return (sort, key, self.random.choice(parts), self.pairs(boxes, turns))
        if sort == "give":
            return (sort, key, self.random.choice(self.pool), self.reckoning(boxes, turns),
                    self.lines(boxes, parts, turns, deep))
        hands = tuple(self.hand(event, boxes, turns) for event in self.names(2))
        return ("plain", key, self.random.choice(self.pool), self.pairs(boxes, turns), hands,
                self.lines(boxes, parts, turns, deep))

    def part(self, name, parts):
        boxes = self.names(4)
        self.room = self.most_lines
        return (name, tuple((box, self.number()) for box in boxes), self.pairs(boxes, (), 4),
                self.lines(boxes, parts))

    def house(self):
        names = self.random.sample(self.pool, self.random.randint(1, 6))
        return tuple(self.part(name, names[place + 1:]) for place, name in enumerate(names))

    def answers(self):
        told = {}
        for sort in ("take", "box", "down"):
            for name in self.names(len(self.pool)):
                told[(sort, name)] = self.number()
        return told
