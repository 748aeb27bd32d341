"""Trees: the tree of a drawing, and the box at an address."""

from viewwood.errors import NoBox


def tree_of(drawing):
    """The tree of boxes of a drawing."""
    rows = {}
    for entry in drawing:
        rows[entry[0]] = entry[4][1]
    return tuple(boxes_in(rows, (), (), (), rows[()]))


def boxes_in(rows, path, spots, label, row):
    """The pairs (label, box) of a row of wants, which stands in the entry at a path.

    The spots lead to the row from the root, the label from the plain thing above it.
    """
    told = []
    for want in row:
        here = spots + (want[1],)
        under = label + (want[1],)
        if want[0] == "plain":
            told.append((under, box_of(rows, path, here, want)))
        elif want[0] == "give":
            told.extend(boxes_in(rows, path, here, under, want[4]))
        else:
            told.extend(boxes_in(rows, here, here, under, rows[here]))
    return told


def box_of(rows, path, spots, want):
    """The box of a plain want, which stands in the entry at a path; the spots lead to the want."""
    hands = tuple([(hand[0], hand[1], hand[2], path, hand[3]) for hand in want[4]])
    return (want[2], want[3], hands, tuple(boxes_in(rows, path, spots, (), want[5])))


def box_at(tree, address):
    """The box at an address; where there is none it is refused with NoBox."""
    box = None
    row = tree
    for label in address:
        box = dict(row).get(label)
        row = () if box is None else box[3]
    if box is None:
        raise NoBox(address)
    return box
