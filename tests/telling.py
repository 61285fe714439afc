"""What the tests share: calls told as lists, and the document's words on breakings told plainly."""

from itertools import combinations

from boxlines.rows import answers

FAR = 10 ** 18


def flat(boxes):
    return [number for box in boxes for number in box]


def add(*boxes):
    return add_numbers(flat(boxes))


def add_numbers(numbers):
    return [0, len(numbers)] + list(numbers)


def put(i, numbers):
    return [1, i, len(numbers)] + list(numbers)


def change(i, numbers):
    return [2, i, len(numbers)] + list(numbers)


def take(i):
    return [3, i]


def row():
    return [4]


def best(measure, first=0, indent=0):
    return [5, measure, first, indent]


def worth(measure, first=0, indent=0):
    return [6, measure, first, indent]


def split(told):
    """Cut what is told for all calls into one list for each call."""
    found = []
    at = 0
    while at < len(told):
        stop = at + 1 + told[at]
        assert told[at] >= 1 and stop <= len(told), told
        found.append(told[at + 1:stop])
        at = stop
    return found


def run(*calls):
    """Hand in calls on one new object; a list of what each answers."""
    return split(answers(flat(calls)))


def box(width=0, space=0, shrink=0, cost=0, stretch=0, height=0, depth=0):
    return (width, height, depth, space, stretch, shrink, cost)


def all_breakings(boxes):
    if not boxes:
        return [()]
    last = len(boxes) - 1
    may_end = [k for k in range(last) if boxes[k][6] != -1]
    return [chosen + (last,)
            for size in range(len(may_end) + 1)
            for chosen in combinations(may_end, size)]


def line_worth(boxes, begin, end, room):
    """What the line from begin to end is overfull by, and what it costs."""
    widths = [b[0] for b in boxes[begin:end + 1]]
    spaces = [b[3] for b in boxes[begin:end]]
    shrinks = [b[5] for b in boxes[begin:end]]
    slack = room - (sum(widths) + sum(spaces))
    overfull = max(0, -slack - sum(shrinks))
    is_last = end == len(boxes) - 1
    cost = 0 if is_last and slack >= 0 else slack * slack
    if not is_last:
        cost += boxes[end][6]
    return overfull, cost


def breaking_worth(boxes, ends, measure, first, indent):
    """The sum of what lines are overfull by, the sum of costs, how many lines."""
    overfull = 0
    cost = 0
    begin = 0
    for number, end in enumerate(ends):
        room = measure - (first if number == 0 else indent)
        line = line_worth(boxes, begin, end, room)
        overfull += line[0]
        cost += line[1]
        begin = end + 1
    return overfull, cost, len(ends)


def plain_best(boxes, measure, first, indent):
    """The best of all breakings, and its worth.

    With as many lines, the smaller tuple of ends is the one that ends earlier where they first differ.
    """
    ranked = [breaking_worth(boxes, ends, measure, first, indent) + (ends,)
              for ends in all_breakings(boxes)]
    chosen = min(ranked)
    return list(chosen[3]), list(chosen[:3])


def forward_best(boxes, measure, first, indent):
    """The same for long rows: the best breaking of each beginning of the row, from the front."""
    behind = {-1: (0, 0, 0, ())}
    last = len(boxes) - 1
    for end in range(len(boxes)):
        if boxes[end][6] == -1 and end != last:
            continue
        ranked = []
        natural = 0
        tight = 0
        for begin in range(end, -1, -1):
            natural += boxes[begin][0] + (boxes[begin][3] if begin < end else 0)
            tight += boxes[begin][0] + (boxes[begin][3] - boxes[begin][5] if begin < end else 0)
            if begin - 1 not in behind:
                continue
            slack = measure - (first if begin == 0 else indent) - natural
            cost = 0 if end == last and slack >= 0 else slack ** 2
            cost += 0 if end == last else boxes[end][6]
            over = max(0, tight - slack - natural)
            before = behind[begin - 1]
            ranked.append((before[0] + over, before[1] + cost, before[2] + 1, before[3] + (end,)))
        behind[end] = min(ranked)
    chosen = behind[last]
    return list(chosen[3]), list(chosen[:3])
