"""Walking: the parts in a row of wants, and the part that is due behind the entries of a drawing."""


def parts_in(row):
    """The tuples (spots, name, gives, downs) of the parts in a row of wants, in its order."""
    told = []
    gather(row, (), (), told)
    return told


def gather(row, spots, downs, told):
    """Lays the parts in a row behind those told; the spots lead to the row, the downs are given around it."""
    for want in row:
        here = spots + (want[1],)
        if want[0] == "part":
            told.append((here, want[2], want[3], downs))
        elif want[0] == "give":
            gather(want[4], here, laid_over(downs, ((want[2], want[3]),)), told)
        else:
            gather(want[5], here, downs, told)


def laid_over(downs, nearer):
    """The downs with nearer ones in the place of like names, sorted by name."""
    numbers = dict(downs)
    numbers.update(nearer)
    return tuple(sorted(numbers.items()))


def asked_by(entry):
    """The parts (path, name, gives, downs) that an entry asks for, in order."""
    return [(entry[0] + part[0], part[1], part[2], laid_over(entry[3], part[3])) for part in parts_in(entry[4][1])]


class Walk:
    """Goes along a drawing, entry by entry, and keeps the parts that are asked for and have no entry yet."""

    def __init__(self, house):
        # The one that is due stands last, where it goes and what its entry asks for comes at little cost.
        self.lacking = [((), house[0][0], (), ())]

    def due(self):
        """The first part that lacks its entry, (path, name, gives, downs), or None where all have one."""
        return self.lacking[-1] if self.lacking else None

    def pass_by(self, entry):
        """Goes on behind the entry of the part that is due."""
        self.lacking.pop()
        self.lacking.extend(list(reversed(asked_by(entry))))


def next_part(house, done):
    """The part (path, name, gives, downs) that is due behind entries that begin a drawing, or None."""
    walk = Walk(house)
    for entry in done:
        walk.pass_by(entry)
    return walk.due()
