"""The words that reckonings begin with, by what stands behind them."""

# Behind these stands a name, and it is the answers that are asked.
ASKING = ("take", "box", "down")

# Behind these stands a name. A turn asks nothing: it is known within the part that is drawn.
NAMING = ("take", "box", "down", "turn")

# Behind these stand reckonings, so many of them.
JOINING = {"add": 2, "times": 2, "less": 2, "pick": 3}
