"""Lines, wants and houses for the tests, written short."""

from samples import ONE
from viewwood.housetexts import read_house


def plain(key=None, tag="t", sets=(), hands=(), lines=()):
    return ("plain", key, tag, sets, hands, lines)


def draw(key=None, name="q", gives=()):
    return ("part", key, name, gives)


def give(key=None, name="g", number=ONE, lines=()):
    return ("give", key, name, number, lines)


def when(number, first=(), second=()):
    return ("when", number, first, second)


def each(name, number, *lines):
    return ("each", name, number, lines)


def num(number):
    return ("num", number)


def box(name):
    return ("box", name)


def want(spot, tag="t", sets=(), hands=(), row=()):
    return ("plain", spot, tag, sets, hands, row)


def want_part(spot, name="q", gives=()):
    return ("part", spot, name, gives)


def want_give(spot, name="g", number=1, row=()):
    return ("give", spot, name, number, row)


def none(nth=0):
    """The spot of the nth thing without a key."""
    return (None, nth)


def house_of(text):
    """The house that rows show, parted by row ends or ; with blanks around them."""
    rows = [row.strip() for row in text.replace(";", "\n").split("\n")]
    return read_house([row for row in rows if row])
