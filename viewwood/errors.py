"""The refusals: one class for each, all of them right under ViewError."""


class ViewError(ValueError):
    """Any refusal."""


class NoText(ViewError):
    """Rows that show no house: the first row and, in it, the first word that is not as told."""

    def __init__(self, line, word):
        ViewError.__init__(self, f"no text of a house: row {line}, word {word}")
        self.line = line
        self.word = word


class NoBox(ViewError):
    """No box stands at this address."""

    def __init__(self, address):
        ViewError.__init__(self, f"no box at {address!r}")
        self.address = address


class NoDeed(ViewError):
    """The deed at this place, from 0, can't be done."""

    def __init__(self, place):
        ViewError.__init__(self, f"deed {place} can't be done")
        self.place = place


class NoChange(ViewError):
    """A change to a part or a box that is not there."""


class NoRow(ViewError):
    """A row that a desk has no answer for."""
