"""What holds of boxlines.rows.answers as a whole."""

import contextlib
import io
import random
import sys
import unittest

from boxlines.rows import answers
from tests.telling import FAR, add, add_numbers, best, box, change, flat, put, row, run, take, worth


class Unchanging(list):
    """A list that fails when it is changed, be it for a while."""

    def refuse(self, *given, **named):
        raise AssertionError("what is handed in was changed")

    append = extend = insert = pop = remove = clear = sort = reverse = refuse
    __setitem__ = __delitem__ = __iadd__ = __imul__ = refuse


def every_call():
    """A list with each call, done and refused."""
    boxes = [box(10 + k, 4, 2, k - 1, 3, k, -k) for k in range(6)]
    return flat([add(*boxes), row(), put(2, box(7)), change(0, box(8)), take(3), row(), best(30, 5, 2),
                 worth(30, 5, 2), add_numbers([1]), put(9, []), change(-FAR, []), take(FAR), best(-1),
                 worth(FAR), add(box(-1)), put(0, box(-1)), change(0, box(0, 0, 1)), row()])


class WholeInterface(unittest.TestCase):
    def test_what_is_handed_in_stays(self):
        calls = every_call()
        before = list(calls)
        told = answers(calls)
        self.assertEqual(calls, before)
        self.assertEqual(answers(Unchanging(calls)), told)

    def test_what_is_given_back_is_free(self):
        calls = every_call()
        told = answers(calls)
        kept = list(told)
        told[:] = [None] * len(told)
        self.assertEqual(answers(calls), kept)

    def test_second_time_as_the_first(self):
        calls = every_call()
        told = answers(calls)
        self.assertEqual(answers([4, 5, 3, 0, 0]), [1, 0, 1, 0])
        self.assertEqual(answers(calls), told)

    def test_whole_numbers_in_one_list(self):
        told = answers(every_call())
        self.assertIs(type(told), list)
        for number in told:
            self.assertIs(type(number), int)

    def test_prints_reads_and_imports_nothing(self):
        calls = every_call()
        answers(calls)
        modules = set(sys.modules)
        out = io.StringIO()
        with contextlib.redirect_stdout(out), contextlib.redirect_stderr(out):
            answers(calls)
        self.assertEqual(out.getvalue(), "")
        self.assertEqual(set(sys.modules), modules)

    def test_refusals_are_told_alone(self):
        for told in run(add_numbers([1]), put(9, []), change(0, []), take(0), best(-1), worth(-1)):
            self.assertEqual(len(told), 1)
            self.assertLess(told[0], 0)

    def test_lists_are_skipped_behind_a_refusal(self):
        # The numbers of a refused list look like calls themselves.
        self.assertEqual(run(put(7, [4] * 7), change(7, [3, 0] * 9), add_numbers([4] * 10), row()),
                         [[-5], [-5], [-1], [0]])


class Large(unittest.TestCase):
    def test_ten_thousand_numbers(self):
        self.assertEqual(answers(add_numbers([0] * 10000)), [1, -1])
        self.assertEqual(answers(add_numbers([0] * 9996)), [1, -3])
        self.assertEqual(answers(put(0, [FAR] * 10000)), [1, -1])
        self.assertEqual(answers(change(0, [FAR] * 10000)), [1, -5])

    def test_four_hundred_rows(self):
        boxes = [box(k) for k in range(300)]
        told = run(add(*boxes), *[row()] * 399)
        self.assertEqual(told, [[0]] + [[0] + flat(boxes)] * 399)

    def test_four_hundred_times_best(self):
        dice = random.Random(7)
        boxes = []
        for k in range(300):
            space = dice.randint(0, 12)
            boxes.append(box(dice.randint(0, 60), space, dice.randint(0, space), dice.randint(-1, 90)))
        told = run(add(*boxes), *[best(300 + k, k % 50, k % 20) for k in range(399)])
        self.assert_breakings(told, 300)

    def test_four_hundred_times_best_when_no_line_is_too_long(self):
        # Each line but the last has room enough, so no end can be left out early.
        boxes = [box(1)] * 299 + [box(1000000)]
        told = run(add(*boxes), *[best(1000 + k) for k in range(399)])
        self.assert_breakings(told, 300)

    def test_four_hundred_times_best_when_every_line_is_too_long(self):
        boxes = [box(1000000, 1000000, 1000000, 1000000)] * 300
        told = run(add(*boxes), *[best(k, 100000000, 100000000) for k in range(399)])
        self.assert_breakings(told, 300)

    def assert_breakings(self, told, count):
        self.assertEqual(len(told), 400)
        self.assertEqual(told[0], [0])
        for found in told[1:]:
            self.assertEqual(found[0], 0)
            self.assertEqual(found[-1], count - 1)
            self.assertEqual(found[1:], sorted(set(found[1:])))


if __name__ == "__main__":
    unittest.main()
