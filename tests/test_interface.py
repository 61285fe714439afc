"""What holds of boxlines.rows.answers as a whole."""

import contextlib
import io
import random
import sys
import unittest

from boxlines.rows import answers
from tests.telling import (EXAMPLE, FAR, add, add_numbers, best, box, breaking_worth, change, flat, greedy, judge,
                           lines, narrowest, natural, outer, places, put, row, run, split, take, worth)


class Unchanging(list):
    """A list that fails when it is changed, be it for a while."""

    def refuse(self, *given, **named):
        raise AssertionError("what is handed in was changed")

    append = extend = insert = pop = remove = clear = sort = reverse = refuse
    __setitem__ = __delitem__ = __iadd__ = __imul__ = refuse


def every_call():
    """A list with each call, done and refused."""
    boxes = [box(10 + k, 4, 2, k - 1, 3, k, -k) for k in range(6)]
    three = (30, 5, 2)
    return flat([add(*boxes), row(), put(2, box(7)), change(0, box(8)), take(3), row(), best(*three), worth(*three),
                 judge([1, 3, 5], *three), greedy(*three), lines(*three), places(*three, 0, 4, 1),
                 places(*three, 1, 4, 1), outer(*three, 4, 1), natural(), narrowest(),
                 add_numbers([1]), put(9, []), change(-FAR, []), take(FAR), best(-1), worth(FAR),
                 judge([1, 0], *three), judge([5], -1), greedy(-1), lines(-1), places(5, 0, 0, 2), outer(5, 0, 0, -1),
                 add(box(-1)), put(0, box(-1)), change(0, box(0, 0, 1)), row()])


def many_items(dice):
    boxes = []
    for k in range(300):
        space = dice.randint(0, 12)
        boxes.append(box(dice.randint(0, 60), space, dice.randint(0, space), dice.randint(-1, 90), dice.randint(0, 9),
                         dice.randint(-9, 30), dice.randint(-9, 30)))
    return boxes


class Examples(unittest.TestCase):
    def test_all_in_one_list(self):
        calls = ([0, 28] + EXAMPLE + [12, 5, 25, 0, 0, 6, 25, 0, 0, 5, 24, 0, 12, 5, 8, 0, 0, 6, 8, 0, 0]
                 + [10, 25, 0, 0, 1, 12, 1, 8, 24, 0, 0, 7, 25, 0, 0, 4, 0, 1, 2, 3, 13])
        told = [1, 0,
                2, 0, 49,
                3, 0, 1, 3,
                4, 0, 0, 9, 2,
                4, 0, 1, 2, 3,
                5, 0, 0, 1, 2, 3,
                4, 0, 8, 21, 4,
                9, 0, 0, -7, 15, -7, 0, -19, 13, -19,
                3, 0, 1, 3,
                4, 0, 0, 680, 4,
                2, 0, 10]
        self.assertEqual(answers(calls), told)

    def test_the_empty_row(self):
        calls = [7, 5, 0, 0, 0, 7, 5, 0, 0, 1, 0, 8, 5, 0, 0, 9, 5, 0, 0, 10, 5, 0, 0, 1, 0, 0, 11, 5, 0, 0, 0, 0, 12, 13]
        told = [4, 0, 0, 0, 0, 1, -6, 1, 0, 1, 0, 1, 0, 4, 0, 0, 0, 0, 2, 0, 0, 2, 0, 0]
        self.assertEqual(answers(calls), told)


class WholeInterface(unittest.TestCase):
    def test_each_call_is_among_them(self):
        told = split(answers(every_call()))
        self.assertEqual([found[0] for found in told[:16]], [0] * 16)
        self.assertEqual([found[0] for found in told[16:]],
                         [-1, -5, -5, -5, -4, -4, -6, -4, -4, -4, -4, -4, -2, -2, -2, 0])

    def test_what_is_handed_in_stays(self):
        calls = every_call()
        before = list(calls)
        told = answers(calls)
        self.assertEqual(calls, before)
        self.assertEqual(answers(Unchanging(calls)), told)

    def test_what_is_given_back_is_free(self):
        calls = every_call()
        told = answers(calls)
        kept = list(told)
        told[:] = [None] * len(told)
        self.assertEqual(answers(calls), kept)

    def test_second_time_as_the_first(self):
        calls = every_call()
        told = answers(calls)
        self.assertEqual(answers([4, 5, 3, 0, 0]), [1, 0, 1, 0])
        self.assertEqual(answers(calls), told)

    def test_whole_numbers_in_one_list(self):
        told = answers(every_call())
        self.assertIs(type(told), list)
        for number in told:
            self.assertIs(type(number), int)

    def test_prints_reads_and_imports_nothing(self):
        calls = every_call()
        answers(calls)
        modules = set(sys.modules)
        out = io.StringIO()
        with contextlib.redirect_stdout(out), contextlib.redirect_stderr(out):
            answers(calls)
        self.assertEqual(out.getvalue(), "")
        self.assertEqual(set(sys.modules), modules)

    def test_refusals_are_told_alone(self):
        for told in run(add_numbers([1]), put(9, []), change(0, []), take(0), best(-1), worth(-1), judge([0], 0),
                        judge([], -1), greedy(-1), lines(-1), places(-1), outer(-1)):
            self.assertEqual(len(told), 1)
            self.assertLess(told[0], 0)

    def test_lists_are_skipped_behind_a_refusal(self):
        # The numbers of a refused list look like calls themselves.
        self.assertEqual(run(put(7, [4] * 7), change(7, [3, 0] * 9), add_numbers([4] * 10), row()),
                         [[-5], [-5], [-1], [0]])


class Large(unittest.TestCase):
    def test_ten_thousand_numbers(self):
        self.assertEqual(answers(add_numbers([0] * 10000)), [1, -1])
        self.assertEqual(answers(add_numbers([0] * 9996)), [1, -3])
        self.assertEqual(answers(put(0, [FAR] * 10000)), [1, -1])
        self.assertEqual(answers(change(0, [FAR] * 10000)), [1, -5])

    def test_four_hundred_rows(self):
        boxes = [box(k) for k in range(300)]
        told = run(add(*boxes), *[row()] * 399)
        self.assertEqual(told, [[0]] + [[0] + flat(boxes)] * 399)

    def test_four_hundred_times_best(self):
        boxes = many_items(random.Random(7))
        told = run(add(*boxes), *[best(300 + k, k % 50, k % 20) for k in range(399)])
        self.assert_breakings(told, 300)

    def test_four_hundred_times_best_when_no_line_is_too_long(self):
        # Each line but the last has room enough, so no end can be left out early.
        boxes = [box(1)] * 299 + [box(1000000)]
        told = run(add(*boxes), *[best(1000 + k) for k in range(399)])
        self.assert_breakings(told, 300)

    def test_four_hundred_times_best_when_every_line_is_too_long(self):
        boxes = [box(1000000, 1000000, 1000000, 1000000)] * 300
        told = run(add(*boxes), *[best(k, 100000000, 100000000) for k in range(399)])
        self.assert_breakings(told, 300)

    def test_four_hundred_times_each_other_call(self):
        boxes = many_items(random.Random(8))
        for call, wholes in ((worth, ()), (greedy, ()), (lines, ()), (places, (1, 12, 3)), (outer, (12, 3))):
            calls = [call(300 + k, k % 50, k % 20, *wholes) for k in range(399)]
            told = run(add(*boxes), *calls)
            self.assertEqual(len(told), 400)
            for k in (0, 1, 199, 398):
                self.assertEqual(told[1 + k], run(add(*boxes), calls[k])[1])
            self.assertEqual([found[0] for found in told], [0] * 400)

    def test_four_hundred_times_natural_and_narrowest(self):
        boxes = many_items(random.Random(9))
        told = run(add(*boxes), *[natural(), narrowest()] * 199, natural())
        width = sum(one[0] for one in boxes) + sum(one[3] for one in boxes[:-1])
        self.assertEqual(told[1::2], [[0, width]] * 200)
        self.assertEqual(told[2::2], [told[2]] * 199)

    def test_four_hundred_times_judge(self):
        boxes = [box(k % 7, 3, 1, k) for k in range(300)]
        many_ends = [[*range(k % 10, 299, 10), 299] for k in range(399)]
        told = run(add(*boxes), *[judge(ends, 50, 3, 1) for ends in many_ends])
        expected = [[0] + list(breaking_worth(boxes, ends, 50, 3, 1)) for ends in many_ends]
        self.assertEqual(told[1:], expected)

    def test_four_hundred_calls_of_all_kinds(self):
        dice = random.Random(10)
        boxes = many_items(dice)
        calls = [add(*boxes)]
        while len(calls) < 400:
            three = (dice.randint(0, 900), dice.randint(0, 99), dice.randint(0, 99))
            i = dice.randint(0, 298)
            calls += [take(i), put(i, boxes[i]), best(*three), worth(*three), greedy(*three), lines(*three),
                      places(*three, 1, 9, 2), outer(*three, 9, 2), natural(), narrowest(), change(i, boxes[i])]
        told = run(*calls[:400])
        self.assertEqual(len(told), 400)
        self.assertEqual([found[0] for found in told], [0] * 400)

    def assert_breakings(self, told, count):
        self.assertEqual(len(told), 400)
        self.assertEqual(told[0], [0])
        for found in told[1:]:
            self.assertEqual(found[0], 0)
            self.assertEqual(found[-1], count - 1)
            self.assertEqual(found[1:], sorted(set(found[1:])))


if __name__ == "__main__":
    unittest.main()
