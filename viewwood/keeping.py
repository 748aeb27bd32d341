"""Keeping: a drawing from an old one, with the pieces taken over whose reads are answered as they were."""

from viewwood.drawings import answered, answers_due
from viewwood.houses import part_of
from viewwood.pieces import drawn
from viewwood.walking import Walk


def redrawn(house, values, old):
    """The tuple (drawing, anew) of a house and values; anew lists the paths of those that were drawn."""
    pieces = pieces_of(old)
    drawing = []
    anew = []
    walk = Walk(house)
    while walk.due() is not None:
        due = walk.due()
        answers = answers_due(house, values, due)
        piece = kept_piece(pieces, due, answers)
        if piece is None:
            piece = drawn(part_of(house, due[1]), answers)
            anew.append(due[0])
        drawing.append(due + (piece,))
        walk.pass_by(drawing[-1])
    return (drawing, anew)


def pieces_of(drawing):
    """The pieces of a drawing by (path, name), which is who a part is."""
    pieces = {}
    for entry in drawing:
        pieces[(entry[0], entry[1])] = entry[4]
    return pieces


def kept_piece(pieces, due, answers):
    """The piece that the part that is due keeps, or None where it has none or read what is now otherwise."""
    piece = pieces.get((due[0], due[1]))
    return piece if piece is not None and answered(piece, answers) else None
