"""What the tests share: calls told as lists, and the document's words on breakings told plainly."""

from itertools import combinations

from boxlines.rows import answers

FAR = 10 ** 18
MOST = 100000000
MOST_LEAD = 1000000

# The four items of the document's examples.
EXAMPLE = [10, 7, 2, 3, 2, 1, 0, 10, 7, 2, 3, 2, 1, 5, 10, 8, 2, 3, 2, 1, 0, 10, 7, 3, 0, 0, 0, -1]


def flat(boxes):
    return [number for box in boxes for number in box]


def add(*boxes):
    return add_numbers(flat(boxes))


def add_numbers(numbers):
    return [0, len(numbers)] + list(numbers)


def put(i, numbers):
    return [1, i, len(numbers)] + list(numbers)


def change(i, numbers):
    return [2, i, len(numbers)] + list(numbers)


def take(i):
    return [3, i]


def row():
    return [4]


def best(measure, first=0, indent=0):
    return [5, measure, first, indent]


def worth(measure, first=0, indent=0):
    return [6, measure, first, indent]


def judge(ends, measure, first=0, indent=0):
    return [7, measure, first, indent, len(ends)] + list(ends)


def greedy(measure, first=0, indent=0):
    return [8, measure, first, indent]


def lines(measure, first=0, indent=0):
    return [9, measure, first, indent]


def places(measure, first=0, indent=0, even=0, lead=0, gap=0):
    return [10, measure, first, indent, even, lead, gap]


def outer(measure, first=0, indent=0, lead=0, gap=0):
    """The call box, which shares its name with the items here."""
    return [11, measure, first, indent, lead, gap]


def natural():
    return [12]


def narrowest():
    return [13]


def split(told):
    """Cut what is told for all calls into one list for each call."""
    found = []
    at = 0
    while at < len(told):
        stop = at + 1 + told[at]
        assert told[at] >= 1 and stop <= len(told), told
        found.append(told[at + 1:stop])
        at = stop
    return found


def run(*calls):
    """Hand in calls on one new object; a list of what each answers."""
    return split(answers(flat(calls)))


def box(width=0, space=0, shrink=0, cost=0, stretch=0, height=0, depth=0):
    return (width, height, depth, space, stretch, shrink, cost)


def cut(numbers):
    return [tuple(numbers[at:at + 7]) for at in range(0, len(numbers), 7)]


def small_row(dice):
    """A row small and plain enough that breakings often tie."""
    widths = dice.choice(((0, 1), (0, 5, 10), (10,), (1, 2, 3, 4), (0, 7, 30)))
    spaces = dice.choice(((0,), (0, 1, 2), (3,), (0, 10)))
    costs = dice.choice(((0,), (-1, 0), (-1, 0, 1, 4, 9), (0, 100), (-1, -1, -1, 0), (0, 1, 2, 3, 1000000)))
    stretches = dice.choice(((0,), (0, 1), (1, 2, 3), (0, 7)))
    heights = dice.choice(((0, 1, 2), (-3, -2), (-5, 0, 5), (7, 8)))
    found = []
    for k in range(dice.randint(0, 9)):
        space = dice.choice(spaces)
        found.append(box(dice.choice(widths), space, dice.choice((0, space, space // 2)), dice.choice(costs),
                         dice.choice(stretches), dice.choice(heights), dice.choice(heights)))
    return found


def wide_row(dice):
    """A row with numbers from all over their ranges, the ends among them."""
    found = []
    for k in range(dice.randint(1, 9)):
        space = dice.choice((0, 1, 999999, 1000000, dice.randint(0, 1000000)))
        shrink = dice.choice((0, space, dice.randint(0, space)))
        width = dice.choice((0, 1, 1000000, dice.randint(0, 1000000)))
        found.append(box(width, space, shrink, dice.choice((-1, 0, 1000000, dice.randint(0, 1000000))),
                         dice.randint(0, 1000000), dice.randint(-1000000, 1000000), dice.randint(-1000000, 1000000)))
    return found


def long_row(dice, shorter_row):
    """A row of 300 items, put together from shorter ones."""
    found = []
    while len(found) < 300:
        found += shorter_row(dice)
    return found[:300]


def small_measure(dice):
    """A measure, a first indent and an indent for a small row."""
    indents = (0, 0, 1, 5, 10, 40)
    return (dice.choice((0, 1, 2, 3, 5, 8, 10, 20, 23, 30, 46)), dice.choice(indents), dice.choice(indents))


def wide_measure(dice):
    """A measure, a first indent and an indent for a wide row."""
    indents = (0, MOST, dice.randint(0, 2000000))
    return (dice.choice((0, MOST, dice.randint(0, MOST), dice.randint(0, 6000000))),
            dice.choice(indents), dice.choice(indents))


def range_runs(call, plain, wholes, mosts):
    """Each whole number of a call at the ends of its range, beyond and far beyond, on two rows.

    For each what is told and what is to be told, plain being what the call answers behind the 0.
    """
    for place, most in enumerate(mosts):
        for number in (0, 1, most, -1, most + 1, -FAR, FAR):
            given = list(wholes)
            given[place] = number
            for boxes in ([], [box(5, 2, 1, 0, 1, 3, 2), box(6, 2, 1, 0, 1, 4, 1), box(7)]):
                expected = [0] + plain(boxes, *given) if 0 <= number <= most else [-4]
                yield run(add(*boxes), call(*given), row()), [[0], expected, [0] + flat(boxes)]


def all_breakings(boxes):
    if not boxes:
        return [()]
    last = len(boxes) - 1
    may_end = [k for k in range(last) if boxes[k][6] != -1]
    return [chosen + (last,)
            for size in range(len(may_end) + 1)
            for chosen in combinations(may_end, size)]


def line_worth(boxes, begin, end, room):
    """What the line from begin to end is overfull by, and what it costs."""
    widths = [b[0] for b in boxes[begin:end + 1]]
    spaces = [b[3] for b in boxes[begin:end]]
    shrinks = [b[5] for b in boxes[begin:end]]
    slack = room - (sum(widths) + sum(spaces))
    overfull = max(0, -slack - sum(shrinks))
    is_last = end == len(boxes) - 1
    cost = 0 if is_last and slack >= 0 else slack * slack
    if not is_last:
        cost += boxes[end][6]
    return overfull, cost


def breaking_worth(boxes, ends, measure, first, indent):
    """The sum of what lines are overfull by, the sum of costs, how many lines."""
    overfull = 0
    cost = 0
    begin = 0
    for number, end in enumerate(ends):
        room = measure - (first if number == 0 else indent)
        line = line_worth(boxes, begin, end, room)
        overfull += line[0]
        cost += line[1]
        begin = end + 1
    return overfull, cost, len(ends)


def plain_best(boxes, measure, first, indent):
    """The best of all breakings, and its worth.

    With as many lines, the smaller tuple of ends is the one that ends earlier where they first differ.
    """
    ranked = [breaking_worth(boxes, ends, measure, first, indent) + (ends,)
              for ends in all_breakings(boxes)]
    chosen = min(ranked)
    return list(chosen[3]), list(chosen[:3])


def forward_best(boxes, measure, first, indent):
    """The same for long rows: the best breaking of each beginning of the row, from the front."""
    behind = {-1: (0, 0, 0, ())}
    last = len(boxes) - 1
    for end in range(len(boxes)):
        if boxes[end][6] == -1 and end != last:
            continue
        ranked = []
        natural = 0
        tight = 0
        for begin in range(end, -1, -1):
            natural += boxes[begin][0] + (boxes[begin][3] if begin < end else 0)
            tight += boxes[begin][0] + (boxes[begin][3] - boxes[begin][5] if begin < end else 0)
            if begin - 1 not in behind:
                continue
            slack = measure - (first if begin == 0 else indent) - natural
            cost = 0 if end == last and slack >= 0 else slack ** 2
            cost += 0 if end == last else boxes[end][6]
            over = max(0, tight - slack - natural)
            before = behind[begin - 1]
            ranked.append((before[0] + over, before[1] + cost, before[2] + 1, before[3] + (end,)))
        behind[end] = min(ranked)
    chosen = behind[last]
    return list(chosen[3]), list(chosen[:3])


def plain_greedy(boxes, measure, first, indent):
    """Line by line, from all items at which it may end."""
    last = len(boxes) - 1
    ends = []
    begin = 0
    while begin <= last:
        room = measure - (indent if ends else first)
        may_end = [end for end in range(begin, last + 1) if boxes[end][6] != -1 or end == last]
        good = [end for end in may_end if line_worth(boxes, begin, end, room)[0] == 0]
        ends.append(good[-1] if good else may_end[0])
        begin = ends[-1] + 1
    return ends


def plain_line(boxes, begin, end, indent, measure):
    """What the document's words tell of one line, by their names."""
    inside = boxes[begin:end + 1]
    slack = measure - indent - sum(b[0] for b in inside) - sum(b[3] for b in inside[:-1])
    return {"begin": begin, "end": end, "indent": indent, "slack": slack, "last": end == len(boxes) - 1,
            "over": line_worth(boxes, begin, end, measure - indent)[0],
            "height": max(b[1] for b in inside), "depth": max(b[2] for b in inside),
            "stretches": [b[4] for b in inside[:-1]], "shrinks": [b[5] for b in inside[:-1]],
            "widths": [b[0] for b in inside], "spaces": [b[3] for b in inside[:-1]]}


def plain_lines(boxes, measure, first, indent):
    """The lines of the best breaking."""
    found = []
    for end in plain_best(boxes, measure, first, indent)[0]:
        begin = found[-1]["end"] + 1 if found else 0
        found.append(plain_line(boxes, begin, end, indent if found else first, measure))
    return found


def even_spaces(line):
    """The spaces of a line that is set even."""
    slack = line["slack"]
    if slack > 0 and not line["last"] and sum(line["stretches"]) > 0:
        amount, parts, sign = slack, line["stretches"], 1
    elif slack < 0 and sum(line["shrinks"]) > 0:
        amount, parts, sign = min(-slack, sum(line["shrinks"])), line["shrinks"], -1
    else:
        return line["spaces"]
    together = [amount * sum(parts[:k]) // sum(parts) for k in range(len(parts) + 1)]
    return [space + sign * (together[k + 1] - together[k]) for k, space in enumerate(line["spaces"])]


def plain_places(boxes, measure, first, indent, even, lead, gap):
    """For each item its x and its baseline's y, as pairs."""
    found = []
    before = None
    y = 0
    for line in plain_lines(boxes, measure, first, indent):
        y -= line["height"] if before is None else max(lead, before["depth"] + gap + line["height"])
        before = line
        spaces = even_spaces(line) if even else line["spaces"]
        for k in range(len(line["widths"])):
            found.append((line["indent"] + sum(line["widths"][:k]) + sum(spaces[:k]), y))
    return found


def plain_box(boxes, measure, first, indent, lead, gap):
    """The greatest right edge, the last baseline's y, the last line's depth."""
    if not boxes:
        return [0, 0, 0]
    placed = plain_places(boxes, measure, first, indent, 0, lead, gap)
    right = max([0] + [x + b[0] for (x, y), b in zip(placed, boxes)])
    return [right, placed[-1][1], plain_lines(boxes, measure, first, indent)[-1]["depth"]]


def plain_narrowest(boxes):
    """The first of the measures from 0 on with which the best breaking has no overfull line."""
    measure = 0
    while plain_best(boxes, measure, 0, 0)[1][0] > 0:
        measure += 1
    return measure
