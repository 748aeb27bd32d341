"""Drawings: the answers of a part at its place, all drawn afresh, and what is let by as an entry or a drawing."""

from viewwood.houses import part_of
from viewwood.pieces import drawn, lets_piece
from viewwood.plain import alike
from viewwood.walking import Walk, next_part


def answers_at(gives, downs, boxes):
    """The answers of a part with these gives, downs and boxes, each of them pairs (name, number)."""
    answers = {}
    for sort, pairs in (("take", gives), ("down", downs), ("box", boxes)):
        for name, number in pairs:
            answers[(sort, name)] = number
    return answers


def boxes_at(part, values, path):
    """The boxes of a part at a path: those of the values where these name it there, else its first numbers."""
    kept = values.get(path)
    if kept is None or kept[0] != part[0]:
        return part[1]
    return kept[1]


def answers_due(house, values, due):
    """The answers of a part (path, name, gives, downs) that is due."""
    boxes = boxes_at(part_of(house, due[1]), values, due[0])
    return answers_at(due[2], due[3], boxes)


def answered(piece, answers):
    """Whether each read of a piece has the number that the answers have now."""
    return all([answers.get(read[0], 0) == read[1] for read in piece[0]])


def afresh(house, values):
    """The drawing of a house and values, each part drawn."""
    drawing = []
    walk = Walk(house)
    while walk.due() is not None:
        due = walk.due()
        piece = drawn(part_of(house, due[1]), answers_due(house, values, due))
        drawing.append(due + (piece,))
        walk.pass_by(drawing[-1])
    return drawing


def lets_entry(house, values, ahead, entry):
    """Whether a plain thing is the next entry behind those that begin the drawing afresh."""
    return lets_due(house, values, next_part(house, ahead), entry)


def lets_due(house, values, due, entry):
    """Whether a plain thing is the entry of the part that is due; None where none is."""
    if due is None or not isinstance(entry, tuple) or len(entry) != 5:
        return False
    if not alike(entry[:4], due) or not lets_piece(part_of(house, due[1]), entry[4]):
        return False
    return answered(entry[4], answers_due(house, values, due))


def lets_drawing(house, values, drawing):
    """Whether a plain thing is the drawing of a house and values."""
    if not isinstance(drawing, list):
        return False
    # Entry by entry, ended by the first that is wrong: the whole drawing may be too great to be drawn here.
    walk = Walk(house)
    for entry in drawing:
        if not lets_due(house, values, walk.due(), entry):
            return False
        walk.pass_by(entry)
    return walk.due() is None
