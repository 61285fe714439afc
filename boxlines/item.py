"""What an item is: the places of its seven numbers, and whether a line may end with it."""

WIDTH = 0
HEIGHT = 1
DEPTH = 2
SPACE = 3
STRETCH = 4
SHRINK = 5
COST = 6

NO_BREAK = -1


def may_end(boxes, end):
    """Tell whether a line may end with the item of this number."""
    return end == len(boxes) - 1 or boxes[end][COST] != NO_BREAK
