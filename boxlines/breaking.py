"""The best breaking of a row into lines.

A breaking's weight is one number that holds, one above the other, what its lines are overfull by,
what they cost and how many they are. So of two breakings the lighter one is the better one, and the
weight of a breaking is the sum of the weights of its lines.
"""

WIDTH = 0
SPACE = 3
SHRINK = 5
COST = 6

NO_BREAK = -1

# Each unit is greater than all that lies below it can come to: there are at most 300 lines, and their
# costs together are below 10^21 (a slack is below 10^9 to either side).
LINE_UNIT = 1
COST_UNIT = 1000
OVERFULL_UNIT = 1000000000000000000000000
HEAVIEST = 1000000000000000000000000000000000000000000


class Edges:
    """Where each item begins and stops if the whole row is one line.

    The tight edges are those with every space shrunk as far as it goes.
    """

    def __init__(self, boxes):
        self.begins = []
        self.stops = []
        self.tight_begins = []
        self.tight_stops = []
        edge = 0
        tight_edge = 0
        for box in boxes:
            self.begins.append(edge)
            self.tight_begins.append(tight_edge)
            edge += box[WIDTH]
            tight_edge += box[WIDTH]
            self.stops.append(edge)
            self.tight_stops.append(tight_edge)
            edge += box[SPACE]
            tight_edge += box[SPACE] - box[SHRINK]


def best_breaking(boxes, measure, first, indent):
    """Give the weight of the best breaking, and the number of each line's last item."""
    edges = Edges(boxes)
    last = len(boxes) - 1
    line_ends = [last] * len(boxes)
    rests = [LINE_UNIT] * len(boxes)
    ends = [last]
    weight = 0
    # Only the first line has a room of its own, so from the back each best breaking of the items from
    # one on is made of a line and a best breaking that is known already.
    for begin in range(last, -1, -1):
        cost = boxes[begin][COST]
        if begin < last and cost != NO_BREAK:
            ends = [begin] + ends
            rests[begin] = LINE_UNIT + cost * COST_UNIT + weight
        room = measure - (first if begin == 0 else indent)
        choice = best_line(edges, begin, room, ends, rests)
        weight = choice[0]
        line_ends[begin] = choice[1]
    return (weight, follow(line_ends))


def best_line(edges, begin, room, ends, rests):
    """Give the weight of the best breaking of the items from begin on, and its first line's last item.

    ends are the items at which the line may end, rising; rests tells for each of them what a line that
    ends there weighs whatever its slack, and what all lines behind it weigh.
    """
    stops = edges.stops
    tight_stops = edges.tight_stops
    limit = edges.begins[begin] + room
    tight_limit = edges.tight_begins[begin] + room
    if stops[-1] <= limit:
        # The last line costs nothing then, and every other breaking has more lines.
        return (LINE_UNIT, len(stops) - 1)
    least = HEAVIEST
    best_end = begin
    for end in ends:
        slack = limit - stops[end]
        weight = slack * slack * COST_UNIT
        if slack < 0:
            excess = tight_stops[end] - tight_limit
            if excess > 0:
                weight += excess * OVERFULL_UNIT
            # A line that is too long already only grows heavier with each further item.
            if weight > least:
                break
        weight += rests[end]
        # What is as light but ends later is not better.
        if weight < least:
            least = weight
            best_end = end
    return (least, best_end)


def follow(line_ends):
    """Give the last items of the lines, where line_ends tells for each item the end of a line from there."""
    ends = []
    begin = 0
    while begin < len(line_ends):
        ends.append(line_ends[begin])
        begin = line_ends[begin] + 1
    return ends


def weight_parts(weight):
    """Give what the lines are overfull by, what they cost and how many they are."""
    return [weight // OVERFULL_UNIT, weight % OVERFULL_UNIT // COST_UNIT, weight % COST_UNIT]
