"""The words that reckonings, lines and changes are told by, and what stands behind them."""

# Behind these stands a name, and it is the answers that are asked.
ASKING = ("take", "box", "down")

# Behind these stands a name. A turn asks nothing: it is known within the part that is drawn.
NAMING = ("take", "box", "down", "turn")

# Behind these stand reckonings, so many of them.
JOINING = {"add": 2, "times": 2, "less": 2, "pick": 3}

# How many things a line of each sort has, its word among them.
LINE_SIZES = {"plain": 6, "part": 4, "give": 5, "when": 4, "each": 4}

# The places in a line of each sort where lines stand.
INNER_PLACES = {"plain": (5,), "part": (), "give": (4,), "when": (2, 3), "each": (3,)}

# What a change does to a box.
CHANGING = ("set", "add", "times")
