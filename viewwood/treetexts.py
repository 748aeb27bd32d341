"""Tree texts: a tree shown as a list of texts, one for each box."""


def shown_tree(tree):
    """The texts of a tree's boxes, outer ones ahead of inner ones."""
    texts = []
    show(tree, 0, texts)
    return texts


def show(row, deep, texts):
    """Lays the texts of a row that stands within so many boxes behind others."""
    for label, box in row:
        texts.append(shown_box(deep, label, box))
        show(box[3], deep + 1, texts)


def shown_box(deep, label, box):
    """The text of a box that stands within so many others."""
    sets = ["=".join([pair[0], str(pair[1])]) for pair in box[1]]
    hands = ["@" + hand[0] for hand in box[2]]
    return " ".join([str(deep), shown_label(label), box[0]] + sets + hands)


def shown_label(label):
    """The spots of a label as one word."""
    return "/".join(["#".join([shown_spot_key(spot[0]), str(spot[1])]) for spot in label])


def shown_spot_key(key):
    """The key of a spot as a word."""
    return "-" if key is None else str(key)
