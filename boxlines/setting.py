"""The lines of a breaking: what they are overfull by and cost, and where their items stand."""

from boxlines.item import COST, DEPTH, HEIGHT, SHRINK, SPACE, STRETCH, WIDTH


class Line:
    """The items of a row from begin to end, set as one line."""

    def __init__(self, boxes, begin, end, measure):
        boxes_inside = boxes[begin:end + 1]
        # The space behind the last item of a line is no part of it.
        spaced = boxes[begin:end]
        self.begin = begin
        self.end = end
        self.is_last = end == len(boxes) - 1
        self.indent = measure.indent_at(begin)
        self.natural = sum([box[WIDTH] for box in boxes_inside]) + sum([box[SPACE] for box in spaced])
        self.stretch = sum([box[STRETCH] for box in spaced])
        self.shrink = sum([box[SHRINK] for box in spaced])
        self.slack = measure.room_at(begin) - self.natural
        self.overfull = max(0, -self.slack - self.shrink)
        self.height = max([box[HEIGHT] for box in boxes_inside])
        self.depth = max([box[DEPTH] for box in boxes_inside])
        self.cost = 0 if self.is_last and self.slack >= 0 else self.slack * self.slack
        if not self.is_last:
            self.cost += boxes[end][COST]


def set_lines(boxes, ends, measure):
    """Give the lines of a breaking."""
    lines = []
    begin = 0
    for end in ends:
        lines.append(Line(boxes, begin, end, measure))
        begin = end + 1
    return lines


def totals(lines):
    """Give what the lines are overfull by in all, what they cost and how many they are."""
    return [sum([line.overfull for line in lines]), sum([line.cost for line in lines]), len(lines)]


def line_numbers(lines):
    """Give for each line its first and last item, slack, what it is overfull by, height and depth."""
    found = []
    for line in lines:
        found.extend([line.begin, line.end, line.slack, line.overfull, line.height, line.depth])
    return found


def shares(amount, parts):
    """Give for each k from 0 on what falls to the first k parts together, if amount is shared by their sizes."""
    whole = sum(parts)
    found = [0]
    reached = 0
    for part in parts:
        reached += part
        found.append(amount * reached // whole)
    return found


def shifts(boxes, line):
    """Give for each item of a line that is set even how far the changed spaces before it move it."""
    spaced = boxes[line.begin:line.end]
    if line.slack > 0 and not line.is_last and line.stretch > 0:
        return shares(line.slack, [box[STRETCH] for box in spaced])
    if line.slack < 0 and line.shrink > 0:
        taken = min(-line.slack, line.shrink)
        return [-share for share in shares(taken, [box[SHRINK] for box in spaced])]
    return [0] * (len(spaced) + 1)


def item_edges(boxes, line):
    """Give for each item of a line its x if spaces are as they are."""
    x = line.indent
    found = []
    for box in boxes[line.begin:line.end + 1]:
        found.append(x)
        x += box[WIDTH] + box[SPACE]
    return found


def baselines(lines, lead, gap):
    """Give the y of each line's baseline."""
    found = []
    for at, line in enumerate(lines):
        if at == 0:
            found.append(-line.height)
        else:
            drop = max(lead, lines[at - 1].depth + gap + line.height)
            found.append(found[-1] - drop)
    return found


def item_places(boxes, lines, even, lead, gap):
    """Give for each item its x and its baseline's y, one behind the other."""
    found = []
    for line, y in zip(lines, baselines(lines, lead, gap)):
        xs = item_edges(boxes, line)
        if even == 1:
            xs = [x + shift for x, shift in zip(xs, shifts(boxes, line))]
        for x in xs:
            found.extend([x, y])
    return found


def outer_box(lines, lead, gap):
    """Give the greatest right edge, the last baseline's y and the last line's depth."""
    if not lines:
        return [0, 0, 0]
    # In a line no item reaches further than the last one, and no x is below 0.
    right = max([line.indent + line.natural for line in lines])
    return [right, baselines(lines, lead, gap)[-1], lines[-1].depth]
