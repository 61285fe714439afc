"""The calls on a row of items, told one behind another in one list of whole numbers."""

from boxlines.breaking import SHRINK, SPACE, best_breaking, weight_parts

ITEM_SIZE = 7
MOST_ITEMS = 300
MOST_MEASURE = 100000000

# Width, height, depth, space, stretch, shrink, cost.
LEAST_NUMBERS = (0, -1000000, -1000000, 0, 0, 0, -1)
MOST_NUMBER = 1000000

DONE = 0
WRONG_COUNT = -1
WRONG_NUMBER = -2
TOO_MANY = -3
WRONG_MEASURE = -4
NO_ITEM = -5

ADD = 0
PUT = 1
CHANGE = 2
TAKE = 3
ROW = 4
BEST = 5

# For each call how many whole numbers it is given, and whether a list follows them.
WHOLE_COUNTS = (0, 1, 1, 1, 0, 3, 3)
HAS_LIST = (True, True, True, False, False, False, False)


def cut(numbers):
    """Give the items that are told one behind another."""
    return [tuple(numbers[at:at + ITEM_SIZE]) for at in range(0, len(numbers), ITEM_SIZE)]


def fits(box):
    """Tell whether each number of an item is in its range."""
    for number, least in zip(box, LEAST_NUMBERS):
        if not least <= number <= MOST_NUMBER:
            return False
    return box[SHRINK] <= box[SPACE]


def numbers_refusal(numbers):
    """Give the refusal of a list of any number of items, or DONE."""
    if len(numbers) % ITEM_SIZE != 0:
        return WRONG_COUNT
    for box in cut(numbers):
        if not fits(box):
            return WRONG_NUMBER
    return DONE


def item_refusal(numbers):
    """Give the refusal of a list that is to be one item, or DONE."""
    if len(numbers) != ITEM_SIZE:
        return WRONG_COUNT
    return numbers_refusal(numbers)


def measure_refusal(wholes):
    """Give the refusal of a measure and its indents, or DONE."""
    for number in wholes:
        if not 0 <= number <= MOST_MEASURE:
            return WRONG_MEASURE
    return DONE


def add(boxes, numbers):
    refusal = numbers_refusal(numbers)
    if refusal != DONE:
        return [refusal]
    if len(boxes) + len(numbers) // ITEM_SIZE > MOST_ITEMS:
        return [TOO_MANY]
    boxes.extend(cut(numbers))
    return [DONE]


def put(boxes, i, numbers):
    if not 0 <= i <= len(boxes):
        return [NO_ITEM]
    refusal = item_refusal(numbers)
    if refusal != DONE:
        return [refusal]
    if len(boxes) >= MOST_ITEMS:
        return [TOO_MANY]
    boxes.insert(i, tuple(numbers))
    return [DONE]


def change(boxes, i, numbers):
    if not 0 <= i < len(boxes):
        return [NO_ITEM]
    refusal = item_refusal(numbers)
    if refusal != DONE:
        return [refusal]
    boxes[i] = tuple(numbers)
    return [DONE]


def take(boxes, i):
    if not 0 <= i < len(boxes):
        return [NO_ITEM]
    boxes.pop(i)
    return [DONE]


def row(boxes):
    found = [DONE]
    for box in boxes:
        found.extend(box)
    return found


def best(boxes, wholes):
    refusal = measure_refusal(wholes)
    if refusal != DONE:
        return [refusal]
    return [DONE] + best_breaking(boxes, wholes[0], wholes[1], wholes[2])[1]


def worth(boxes, wholes):
    refusal = measure_refusal(wholes)
    if refusal != DONE:
        return [refusal]
    return [DONE] + weight_parts(best_breaking(boxes, wholes[0], wholes[1], wholes[2])[0])


def answer(boxes, call, wholes, numbers):
    """Carry out one call on the row and give what it answers."""
    if call == ADD:
        return add(boxes, numbers)
    if call == PUT:
        return put(boxes, wholes[0], numbers)
    if call == CHANGE:
        return change(boxes, wholes[0], numbers)
    if call == TAKE:
        return take(boxes, wholes[0])
    if call == ROW:
        return row(boxes)
    if call == BEST:
        return best(boxes, wholes)
    return worth(boxes, wholes)


def answers(calls):
    """Give, for each call in order, how many numbers are answered and then these."""
    boxes = []
    told = []
    at = 0
    while at < len(calls):
        call = calls[at]
        list_at = at + 1 + WHOLE_COUNTS[call]
        wholes = calls[at + 1:list_at]
        numbers = []
        at = list_at
        if HAS_LIST[call]:
            at = list_at + 1 + calls[list_at]
            numbers = calls[list_at + 1:at]
        found = answer(boxes, call, wholes, numbers)
        told.append(len(found))
        told.extend(found)
    return told
