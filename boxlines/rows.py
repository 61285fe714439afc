"""The calls on a row of items, told one behind another in one list of whole numbers."""

from boxlines.breaking import Measure, best_breaking, greedy_breaking, is_breaking, narrowest_measure, natural_width
from boxlines.item import SHRINK, SPACE
from boxlines.setting import item_places, line_numbers, outer_box, set_lines, totals

ITEM_SIZE = 7
MOST_ITEMS = 300

# Width, height, depth, space, stretch, shrink, cost.
LEAST_NUMBERS = (0, -1000000, -1000000, 0, 0, 0, -1)
MOST_NUMBER = 1000000

DONE = 0
WRONG_COUNT = -1
WRONG_NUMBER = -2
TOO_MANY = -3
WRONG_MEASURE = -4
NO_ITEM = -5
NO_BREAKING = -6

ADD = 0
PUT = 1
CHANGE = 2
TAKE = 3
ROW = 4
BEST = 5
WORTH = 6
JUDGE = 7
GREEDY = 8
LINES = 9
PLACES = 10
BOX = 11
NATURAL = 12
NARROWEST = 13

# For each call how many whole numbers it is given, and whether a list follows them.
WHOLE_COUNTS = (0, 1, 1, 1, 0, 3, 3, 3, 3, 3, 6, 5, 0, 0)
HAS_LIST = (True, True, True, False, False, False, False, True, False, False, False, False, False, False)

# The greatest that the whole numbers of a call with a measure may be; the least is 0 for each.
# Measure, first indent, indent; for places even, lead and gap; for box lead and gap.
MOST_OF_MEASURE = (100000000, 100000000, 100000000)
MOST_OF_PLACES = (100000000, 100000000, 100000000, 1, 1000000, 1000000)
MOST_OF_BOX = (100000000, 100000000, 100000000, 1000000, 1000000)


def cut(numbers):
    """Give the items that are told one behind another."""
    return [tuple(numbers[at:at + ITEM_SIZE]) for at in range(0, len(numbers), ITEM_SIZE)]


def fits(box):
    """Tell whether each number of an item is in its range."""
    for number, least in zip(box, LEAST_NUMBERS):
        if not least <= number <= MOST_NUMBER:
            return False
    return box[SHRINK] <= box[SPACE]


def numbers_refusal(numbers):
    """Give the refusal of a list of any number of items, or DONE."""
    if len(numbers) % ITEM_SIZE != 0:
        return WRONG_COUNT
    for box in cut(numbers):
        if not fits(box):
            return WRONG_NUMBER
    return DONE


def item_refusal(numbers):
    """Give the refusal of a list that is to be one item, or DONE."""
    if len(numbers) != ITEM_SIZE:
        return WRONG_COUNT
    return numbers_refusal(numbers)


def most_wholes(call):
    """Give the greatest that each whole number of a call with a measure may be."""
    if call == PLACES:
        return MOST_OF_PLACES
    if call == BOX:
        return MOST_OF_BOX
    return MOST_OF_MEASURE


def in_range(wholes, mosts):
    """Tell whether each whole number of a call with a measure is in its range."""
    for number, most in zip(wholes, mosts):
        if not 0 <= number <= most:
            return False
    return True


def add(boxes, numbers):
    refusal = numbers_refusal(numbers)
    if refusal != DONE:
        return [refusal]
    if len(boxes) + len(numbers) // ITEM_SIZE > MOST_ITEMS:
        return [TOO_MANY]
    boxes.extend(cut(numbers))
    return [DONE]


def put(boxes, i, numbers):
    if not 0 <= i <= len(boxes):
        return [NO_ITEM]
    refusal = item_refusal(numbers)
    if refusal != DONE:
        return [refusal]
    if len(boxes) >= MOST_ITEMS:
        return [TOO_MANY]
    boxes.insert(i, tuple(numbers))
    return [DONE]


def change(boxes, i, numbers):
    if not 0 <= i < len(boxes):
        return [NO_ITEM]
    refusal = item_refusal(numbers)
    if refusal != DONE:
        return [refusal]
    boxes[i] = tuple(numbers)
    return [DONE]


def take(boxes, i):
    if not 0 <= i < len(boxes):
        return [NO_ITEM]
    boxes.pop(i)
    return [DONE]


def row(boxes):
    found = [DONE]
    for box in boxes:
        found.extend(box)
    return found


def judge(boxes, measure, ends):
    if not is_breaking(boxes, ends):
        return [NO_BREAKING]
    return [DONE] + totals(set_lines(boxes, ends, measure))


def answer_with_measure(boxes, call, wholes, numbers):
    """Give what a call with a measure answers."""
    if not in_range(wholes, most_wholes(call)):
        return [WRONG_MEASURE]
    measure = Measure(wholes[0], wholes[1], wholes[2])
    if call == JUDGE:
        return judge(boxes, measure, numbers)
    if call == GREEDY:
        return [DONE] + greedy_breaking(boxes, measure)
    ends = best_breaking(boxes, measure)
    if call == BEST:
        return [DONE] + ends
    best_lines = set_lines(boxes, ends, measure)
    if call == WORTH:
        return [DONE] + totals(best_lines)
    if call == LINES:
        return [DONE] + line_numbers(best_lines)
    if call == PLACES:
        return [DONE] + item_places(boxes, best_lines, wholes[3], wholes[4], wholes[5])
    return [DONE] + outer_box(best_lines, wholes[3], wholes[4])


def answer(boxes, call, wholes, numbers):
    """Carry out one call on the row and give what it answers."""
    if call == ADD:
        return add(boxes, numbers)
    if call == PUT:
        return put(boxes, wholes[0], numbers)
    if call == CHANGE:
        return change(boxes, wholes[0], numbers)
    if call == TAKE:
        return take(boxes, wholes[0])
    if call == ROW:
        return row(boxes)
    if call == NATURAL:
        return [DONE, natural_width(boxes)]
    if call == NARROWEST:
        return [DONE, narrowest_measure(boxes)]
    return answer_with_measure(boxes, call, wholes, numbers)


def answers(calls):
    """Give, for each call in order, how many numbers are answered and then these."""
    boxes = []
    told = []
    at = 0
    while at < len(calls):
        call = calls[at]
        list_at = at + 1 + WHOLE_COUNTS[call]
        wholes = calls[at + 1:list_at]
        numbers = []
        at = list_at
        if HAS_LIST[call]:
            at = list_at + 1 + calls[list_at]
            numbers = calls[list_at + 1:at]
        found = answer(boxes, call, wholes, numbers)
        told.append(len(found))
        told.extend(found)
    return told
