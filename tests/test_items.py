"""Promises 1 to 5: add, put, change, take, row."""

import random
import unittest

from boxlines.rows import answers
from tests.telling import FAR, add, add_numbers, box, change, flat, put, row, run, take

A = (1, 2, 3, 4, 5, 4, 6)
B = (11, 12, 13, 14, 15, 14, 16)
C = (21, -22, -23, 24, 25, 0, -1)
D = (31, 32, 33, 34, 35, 33, 36)

LEAST = (0, -1000000, -1000000, 0, 0, 0, -1)
MOST = (1000000,) * 7


def with_number(numbers, place, number):
    changed = list(numbers)
    changed[place] = number
    return changed


def good_edges():
    """Items with one number at an end of its range."""
    middle = [500, 0, 0, 500, 500, 500, 500]
    found = [with_number(middle, place, LEAST[place]) for place in (0, 1, 2, 4, 5, 6)]
    found += [with_number(middle, place, MOST[place]) for place in (0, 1, 2, 3, 4, 6)]
    found.append([500, 0, 0, 0, 500, 0, 500])
    found.append([500, 0, 0, 1000000, 500, 1000000, 500])
    found.append(list(LEAST))
    found.append(list(MOST))
    return found


def bad_edges():
    """Items with one number out of its range, by one and by far."""
    low = [500, 0, 0, 0, 500, 0, 500]
    high = [500, 0, 0, 1000000, 500, 1000000, 500]
    found = []
    for place in range(7):
        found.append(with_number(low, place, LEAST[place] - 1))
        found.append(with_number(low, place, -FAR))
        found.append(with_number(high, place, MOST[place] + 1))
        found.append(with_number(high, place, FAR))
    found.append([500, 0, 0, 500, 500, 501, 500])
    found.append([500, 0, 0, 0, 500, 1, 500])
    found.append([500, 0, 0, 999999, 500, 1000000, 500])
    return found


class WholeLists(unittest.TestCase):
    def test_all_calls_on_one_row(self):
        calls = [4,
                 0, 14, 1, 2, 3, 4, 5, 4, 6, 11, 12, 13, 14, 15, 14, 16,
                 4,
                 1, 1, 7, 21, -22, -23, 24, 25, 0, -1,
                 4,
                 2, 0, 7, 31, 32, 33, 34, 35, 33, 36,
                 4,
                 3, 1,
                 4]
        told = [1, 0,
                1, 0,
                15, 0, 1, 2, 3, 4, 5, 4, 6, 11, 12, 13, 14, 15, 14, 16,
                1, 0,
                22, 0, 1, 2, 3, 4, 5, 4, 6, 21, -22, -23, 24, 25, 0, -1, 11, 12, 13, 14, 15, 14, 16,
                1, 0,
                22, 0, 31, 32, 33, 34, 35, 33, 36, 21, -22, -23, 24, 25, 0, -1, 11, 12, 13, 14, 15, 14, 16,
                1, 0,
                15, 0, 31, 32, 33, 34, 35, 33, 36, 11, 12, 13, 14, 15, 14, 16]
        self.assertEqual(answers(calls), told)

    def test_the_documents_add(self):
        calls = [0, 28, 10, 7, 2, 3, 2, 1, 0, 10, 7, 2, 3, 2, 1, 5, 10, 8, 2, 3, 2, 1, 0, 10, 7, 3, 0, 0, 0, -1, 4]
        told = [1, 0, 29, 0, 10, 7, 2, 3, 2, 1, 0, 10, 7, 2, 3, 2, 1, 5, 10, 8, 2, 3, 2, 1, 0, 10, 7, 3, 0, 0, 0, -1]
        self.assertEqual(answers(calls), told)

    def test_refusals(self):
        calls = [0, 1, 5, 0, 7, 0, 0, 0, 0, 0, 1, 0, 1, 1, 0, 2, 0, 0, 3, 0, 4]
        self.assertEqual(answers(calls), [1, -1, 1, -2, 1, -5, 1, -5, 1, -5, 1, 0])


class Add(unittest.TestCase):
    def test_comes_behind(self):
        self.assertEqual(run(add(A), add(B, C), row()), [[0], [0], [0] + flat([A, B, C])])

    def test_no_item_at_all(self):
        self.assertEqual(run(add(), row(), add(A), add(), row()), [[0], [0], [0], [0], [0] + flat([A])])

    def test_not_sevens(self):
        for size in (1, 6, 8, 13, 15, 9999):
            numbers = ([1] * 7 * 1429)[:size]
            self.assertEqual(run(add(A), add_numbers(numbers), row()), [[0], [-1], [0] + flat([A])])

    def test_ends_of_ranges(self):
        for numbers in good_edges():
            self.assertEqual(run(add(A), add(numbers), row()), [[0], [0], [0] + flat([A, numbers])])

    def test_out_of_range(self):
        for numbers in bad_edges():
            for boxes in ([numbers], [numbers, B], [B, numbers], [B, numbers, C]):
                self.assertEqual(run(add(A), add(*boxes), row()), [[0], [-2], [0] + flat([A])], boxes)

    def test_three_hundred_at_most(self):
        full = [0] + flat([A] * 300)
        self.assertEqual(run(add(*[A] * 300), row()), [[0], full])
        self.assertEqual(run(add(*[A] * 299), add(A), add(A), row()), [[0], [0], [-3], full])
        self.assertEqual(run(add(*[A] * 300), add(), row()), [[0], [0], full])
        self.assertEqual(run(add(*[A] * 301), row()), [[-3], [0]])
        self.assertEqual(run(add(*[A] * 299), add(B, C), row()), [[0], [-3], [0] + flat([A] * 299)])
        self.assertEqual(run(add(A), add(*[B] * 1428), row()), [[0], [-3], [0] + flat([A])])

    def test_room_again_behind_take(self):
        told = run(add(*[A] * 300), take(0), add(B), add(C), row())
        self.assertEqual(told, [[0], [0], [0], [-3], [0] + flat([A] * 299 + [B])])

    def test_order_of_refusals(self):
        bad = with_number(A, 0, -1)
        many = flat([A] * 300 + [bad])
        self.assertEqual(run(add_numbers(many + [0])), [[-1]])
        self.assertEqual(run(add_numbers(many)), [[-2]])
        self.assertEqual(run(add_numbers([-FAR])), [[-1]])
        self.assertEqual(run(add(*[A] * 300), add_numbers([FAR]), add(bad), add(A)), [[0], [-1], [-2], [-3]])


class Put(unittest.TestCase):
    def test_each_place(self):
        for i in range(4):
            boxes = [A, B, C]
            boxes.insert(i, D)
            self.assertEqual(run(add(A, B, C), put(i, D), row()), [[0], [0], [0] + flat(boxes)])

    def test_into_the_empty_row(self):
        self.assertEqual(run(put(0, A), row()), [[0], [0] + flat([A])])
        for i in (-FAR, -1, 1, FAR):
            self.assertEqual(run(put(i, A), row()), [[-5], [0]])

    def test_no_such_place(self):
        for i in (-FAR, -4, -1, 4, FAR):
            self.assertEqual(run(add(A, B, C), put(i, D), row()), [[0], [-5], [0] + flat([A, B, C])])

    def test_not_seven(self):
        for size in (0, 1, 6, 8, 14, 10000):
            numbers = ([1] * 7 * 1429)[:size]
            self.assertEqual(run(add(A), put(0, numbers), row()), [[0], [-1], [0] + flat([A])])

    def test_ranges(self):
        for numbers in good_edges():
            self.assertEqual(run(add(A), put(0, numbers), row()), [[0], [0], [0] + flat([numbers, A])])
        for numbers in bad_edges():
            self.assertEqual(run(add(A), put(0, numbers), row()), [[0], [-2], [0] + flat([A])], numbers)

    def test_three_hundred_at_most(self):
        for i in (0, 150, 299, 300):
            self.assertEqual(run(add(*[A] * 300), put(i, B), row()), [[0], [-3], [0] + flat([A] * 300)])
        for i in (0, 150, 299):
            boxes = [A] * 299
            boxes.insert(i, B)
            self.assertEqual(run(add(*[A] * 299), put(i, B), row()), [[0], [0], [0] + flat(boxes)])

    def test_order_of_refusals(self):
        bad = with_number(A, 6, -2)
        full = add(*[A] * 300)
        self.assertEqual(run(full, put(301, []), put(-1, bad), put(301, A))[1:], [[-5], [-5], [-5]])
        self.assertEqual(run(full, put(300, bad[:6]), put(300, bad + bad))[1:], [[-1], [-1]])
        self.assertEqual(run(full, put(300, bad), put(0, bad))[1:], [[-2], [-2]])
        self.assertEqual(run(full, put(300, A), put(0, A))[1:], [[-3], [-3]])


class Change(unittest.TestCase):
    def test_each_item(self):
        for i in range(3):
            boxes = [A, B, C]
            boxes[i] = D
            self.assertEqual(run(add(A, B, C), change(i, D), row()), [[0], [0], [0] + flat(boxes)])

    def test_no_such_item(self):
        for i in (-FAR, -3, -1, 3, FAR):
            self.assertEqual(run(add(A, B, C), change(i, D), row()), [[0], [-5], [0] + flat([A, B, C])])
        for i in (-FAR, -1, 0, 1, FAR):
            self.assertEqual(run(change(i, D), row()), [[-5], [0]])

    def test_not_seven(self):
        for size in (0, 1, 6, 8, 14, 10000):
            numbers = ([1] * 7 * 1429)[:size]
            self.assertEqual(run(add(A), change(0, numbers), row()), [[0], [-1], [0] + flat([A])])

    def test_ranges(self):
        for numbers in good_edges():
            self.assertEqual(run(add(A, B), change(0, numbers), row()), [[0], [0], [0] + flat([numbers, B])])
        for numbers in bad_edges():
            self.assertEqual(run(add(A, B), change(0, numbers), row()), [[0], [-2], [0] + flat([A, B])], numbers)

    def test_in_a_full_row(self):
        told = run(add(*[A] * 300), change(299, B), change(300, B), row())
        self.assertEqual(told, [[0], [0], [-5], [0] + flat([A] * 299 + [B])])

    def test_order_of_refusals(self):
        bad = with_number(A, 5, 5)
        told = run(add(A), change(1, []), change(1, bad), change(0, bad + bad), change(0, bad))
        self.assertEqual(told, [[0], [-5], [-5], [-1], [-2]])


class Take(unittest.TestCase):
    def test_each_item(self):
        for i in range(3):
            boxes = [A, B, C]
            boxes.pop(i)
            self.assertEqual(run(add(A, B, C), take(i), row()), [[0], [0], [0] + flat(boxes)])

    def test_no_such_item(self):
        for i in (-FAR, -3, -1, 3, FAR):
            self.assertEqual(run(add(A, B, C), take(i), row()), [[0], [-5], [0] + flat([A, B, C])])

    def test_until_empty(self):
        self.assertEqual(run(take(0), add(A, B), take(1), take(1), take(0), take(0), row()),
                         [[-5], [0], [0], [-5], [0], [-5], [0]])


class Row(unittest.TestCase):
    def test_empty(self):
        self.assertEqual(answers([4]), [1, 0])

    def test_full(self):
        boxes = [box(width=k, space=300 + k, shrink=k, cost=k - 1, stretch=600 + k, height=-k, depth=900 + k)
                 for k in range(300)]
        self.assertEqual(run(add(*boxes), row(), row()), [[0], [0] + flat(boxes), [0] + flat(boxes)])


class ManyCalls(unittest.TestCase):
    def test_against_a_plain_list(self):
        dice = random.Random(5)
        for turn in range(60):
            boxes = [list(A) for k in range(dice.choice((0, 3, 296)))]
            calls = [add(*boxes)]
            expected = [[0]]
            for step in range(120):
                self.one_call(dice, boxes, calls, expected)
            calls.append(row())
            expected.append([0] + flat(boxes))
            self.assertEqual(run(*calls), expected)

    def one_call(self, dice, boxes, calls, expected):
        i = dice.randint(-1, len(boxes) + 1)
        numbers = [dice.randint(0, 9) for k in range(dice.choice((7, 7, 7, 7, 6)))]
        good = len(numbers) == 7 and numbers[5] <= numbers[3]
        refusal = [-1] if len(numbers) != 7 else [-2]
        kind = dice.randint(0, 3)
        if kind == 0:
            calls.append(add_numbers(numbers))
            expected.append([0] if good and len(boxes) < 300 else [-3] if good else refusal)
            boxes += [numbers] if expected[-1] == [0] else []
        elif kind == 1:
            calls.append(put(i, numbers))
            expected.append([-5] if not 0 <= i <= len(boxes) else
                            refusal if not good else [-3] if len(boxes) == 300 else [0])
            boxes[max(i, 0):max(i, 0)] = [numbers] if expected[-1] == [0] else []
        elif kind == 2:
            calls.append(change(i, numbers))
            expected.append([-5] if not 0 <= i < len(boxes) else [0] if good else refusal)
            if expected[-1] == [0]:
                boxes[i] = numbers
        else:
            calls.append(take(i))
            expected.append([0] if 0 <= i < len(boxes) else [-5])
            if expected[-1] == [0]:
                boxes.pop(i)


if __name__ == "__main__":
    unittest.main()
