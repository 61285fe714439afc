"""The breakings of a row into lines: the best one, the greedy one, and what is one at all.

A breaking's weight is one number that holds, one above the other, what its lines are overfull by,
what they cost and how many they are. So of two breakings the lighter one is the better one, and the
weight of a breaking is the sum of the weights of its lines.
"""

from boxlines.item import COST, SHRINK, SPACE, WIDTH, may_end

# Each unit is greater than all that lies below it can come to: there are at most 300 lines, and their
# costs together are below 10^21 (a slack is below 10^9 to either side).
LINE_UNIT = 1
COST_UNIT = 1000
OVERFULL_UNIT = 1000000000000000000000000
HEAVIEST = 1000000000000000000000000000000000000000000


class Measure:
    """The measure and the two indents that a breaking is told for."""

    def __init__(self, width, first, indent):
        self.width = width
        self.first = first
        self.indent = indent

    def indent_at(self, begin):
        """Give the indent of the line that begins with this item."""
        return self.first if begin == 0 else self.indent

    def room_at(self, begin):
        """Give the room of the line that begins with this item."""
        return self.width - self.indent_at(begin)


class Edges:
    """Where each item begins and stops if the whole row is one line.

    The tight edges are those with every space shrunk as far as it goes.
    """

    def __init__(self, boxes):
        self.begins = []
        self.stops = []
        self.tight_begins = []
        self.tight_stops = []
        edge = 0
        tight_edge = 0
        for box in boxes:
            self.begins.append(edge)
            self.tight_begins.append(tight_edge)
            edge += box[WIDTH]
            tight_edge += box[WIDTH]
            self.stops.append(edge)
            self.tight_stops.append(tight_edge)
            edge += box[SPACE]
            tight_edge += box[SPACE] - box[SHRINK]


def is_breaking(boxes, ends):
    """Tell whether lines may end with just these items."""
    begin = 0
    for end in ends:
        if not begin <= end < len(boxes) or not may_end(boxes, end):
            return False
        begin = end + 1
    return begin == len(boxes)


def best_breaking(boxes, measure):
    """Give the number of each line's last item in the best breaking."""
    edges = Edges(boxes)
    last = len(boxes) - 1
    line_ends = [last] * len(boxes)
    rests = [LINE_UNIT] * len(boxes)
    ends = [last]
    weight = 0
    # Only the first line has a room of its own, so from the back each best breaking of the items from
    # one on is made of a line and a best breaking that is known already.
    for begin in range(last, -1, -1):
        if begin < last and may_end(boxes, begin):
            ends = [begin] + ends
            rests[begin] = LINE_UNIT + boxes[begin][COST] * COST_UNIT + weight
        choice = best_line(edges, begin, measure.room_at(begin), ends, rests)
        weight = choice[0]
        line_ends[begin] = choice[1]
    return follow(line_ends)


def best_line(edges, begin, room, ends, rests):
    """Give the weight of the best breaking of the items from begin on, and its first line's last item.

    ends are the items at which the line may end, rising; rests tells for each of them what a line that
    ends there weighs whatever its slack, and what all lines behind it weigh.
    """
    stops = edges.stops
    tight_stops = edges.tight_stops
    limit = edges.begins[begin] + room
    tight_limit = edges.tight_begins[begin] + room
    if stops[-1] <= limit:
        # The last line costs nothing then, and every other breaking has more lines.
        return (LINE_UNIT, len(stops) - 1)
    least = HEAVIEST
    best_end = begin
    for end in ends:
        slack = limit - stops[end]
        weight = slack * slack * COST_UNIT
        if slack < 0:
            excess = tight_stops[end] - tight_limit
            if excess > 0:
                weight += excess * OVERFULL_UNIT
            # A line that is too long already only grows heavier with each further item.
            if weight > least:
                break
        weight += rests[end]
        # What is as light but ends later is not better.
        if weight < least:
            least = weight
            best_end = end
    return (least, best_end)


def follow(line_ends):
    """Give the last items of the lines, where line_ends tells for each item the end of a line from there."""
    ends = []
    begin = 0
    while begin < len(line_ends):
        ends.append(line_ends[begin])
        begin = line_ends[begin] + 1
    return ends


def greedy_breaking(boxes, measure):
    """Give the number of each line's last item if each line takes as many items as it can."""
    edges = Edges(boxes)
    ends = []
    begin = 0
    while begin < len(boxes):
        end = greedy_line(boxes, edges, begin, measure.room_at(begin))
        ends.append(end)
        begin = end + 1
    return ends


def greedy_line(boxes, edges, begin, room):
    """Give the last item at which a line may end without being overfull, else the first at which it may."""
    tight_limit = edges.tight_begins[begin] + room
    chosen = None
    for end in range(begin, len(boxes)):
        if may_end(boxes, end):
            # A line that is overfull stays so with each further item.
            if chosen is not None and edges.tight_stops[end] > tight_limit:
                break
            chosen = end
    return chosen


def natural_width(boxes):
    """Give the natural width of the whole row as one line."""
    return Edges(boxes).stops[-1] if boxes else 0


def narrowest_measure(boxes):
    """Give the smallest measure with which no line of the best breaking is overfull, without indents."""
    edges = Edges(boxes)
    widest = 0
    begin = 0
    for end in range(len(boxes)):
        if may_end(boxes, end):
            widest = max(widest, edges.tight_stops[end] - edges.tight_begins[begin])
            begin = end + 1
    return widest
