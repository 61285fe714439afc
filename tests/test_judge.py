"""Promise 8: judge, on chosen breakings and on all breakings of many rows."""

import random
import unittest
from itertools import combinations

from boxlines.rows import answers
from tests.telling import (EXAMPLE, FAR, MOST, add, all_breakings, best, box, breaking_worth, change, cut, flat,
                           judge, long_row, plain_best, row, run, small_measure, small_row, take, wide_measure,
                           wide_row, worth)


def judged(boxes, ends, measure, first=0, indent=0):
    told = run(add(*boxes), judge(ends, measure, first, indent), row())
    assert told[0] == [0] and told[2] == [0] + flat(boxes), told
    return told[1]


class Examples(unittest.TestCase):
    def test_as_whole_lists(self):
        calls = [0, 28] + EXAMPLE + [7, 25, 0, 0, 4, 0, 1, 2, 3]
        self.assertEqual(answers(calls), [1, 0, 4, 0, 0, 680, 4])

    def test_the_examples_of_best_and_worth(self):
        calls = [0, 28] + EXAMPLE + [7, 25, 0, 0, 2, 1, 3, 7, 24, 0, 12, 3, 1, 2, 3, 7, 8, 0, 0, 4, 0, 1, 2, 3]
        self.assertEqual(answers(calls), [1, 0, 4, 0, 0, 9, 2, 4, 0, 0, 10, 3, 4, 0, 8, 21, 4])


class Worth(unittest.TestCase):
    def test_empty_row(self):
        self.assertEqual(answers([7, 0, 0, 0, 0]), [4, 0, 0, 0, 0])
        self.assertEqual(judged([], [], 0, MOST, MOST), [0, 0, 0, 0])
        self.assertEqual(run(add(box(3)), take(0), judge([], 5)), [[0], [0], [0, 0, 0, 0]])

    def test_one_item(self):
        for cost in (-1, 0, 7):
            self.assertEqual(judged([box(10, cost=cost)], [0], 12), [0, 0, 0, 1])
            self.assertEqual(judged([box(10, cost=cost)], [0], 10), [0, 0, 0, 1])
            self.assertEqual(judged([box(10, cost=cost)], [0], 7), [0, 3, 9, 1])

    def test_slack_of_the_last_line_and_of_others(self):
        boxes = [box(10, cost=7), box(10, cost=100)]
        self.assertEqual(judged(boxes, [0, 1], 13), [0, 0, 9 + 7, 2])
        self.assertEqual(judged(boxes, [0, 1], 10), [0, 0, 7, 2])
        self.assertEqual(judged(boxes, [0, 1], 8), [0, 4, 4 + 7 + 4, 2])

    def test_slack_below_0_within_the_shrink(self):
        boxes = [box(10, space=4, shrink=3, cost=-1), box(10)]
        for measure, told in ((25, [0, 0, 0, 1]), (24, [0, 0, 0, 1]), (23, [0, 0, 1, 1]), (21, [0, 0, 9, 1]),
                              (20, [0, 1, 16, 1]), (0, [0, 21, 576, 1])):
            self.assertEqual(judged(boxes, [1], measure), told)
            # The same line ahead of another one costs its slack in any case.
            slack = measure - 24
            followed = judged(boxes + [box(0)], [1, 2], measure)
            self.assertEqual(followed, [0, told[1], slack * slack, 2])

    def test_space_and_shrink_behind_a_line_do_not_count(self):
        boxes = [box(10, space=50, shrink=40), box(10, space=9, shrink=9)]
        self.assertEqual(judged(boxes, [0, 1], 9), [0, 2, 2, 2])

    def test_shrink_of_one_line_does_not_help_another(self):
        boxes = [box(5, space=9, shrink=9), box(5), box(20)]
        self.assertEqual(judged(boxes, [1, 2], 10), [0, 10, 81 + 100, 2])

    def test_rooms(self):
        boxes = [box(10), box(10), box(10)]
        self.assertEqual(judged(boxes, [0, 1, 2], 20, 10, 3), [0, 0, 49, 3])
        self.assertEqual(judged(boxes, [0, 1, 2], 20, 3, 10), [0, 0, 49, 3])
        self.assertEqual(judged(boxes, [2], 20, 3, 10), [0, 13, 169, 1])

    def test_rooms_below_0(self):
        self.assertEqual(judged([box(10), box(4)], [0, 1], 0, 5, 7), [0, 15 + 11, 225 + 121, 2])
        self.assertEqual(judged([box(0), box(0)], [0, 1], 0, MOST, MOST), [0, 2 * MOST, 2 * MOST ** 2, 2])

    def test_the_greatest_sums(self):
        boxes = [box(1000000, 1000000, 0, 1000000)] * 300
        self.assertEqual(judged(boxes, range(300), 0, MOST, MOST),
                         [0, 300 * 101000000, 300 * 101000000 ** 2 + 299 * 1000000, 300])
        self.assertEqual(judged(boxes, [299], 0, MOST, MOST), [0, 699000000, 699000000 ** 2, 1])
        boxes = [box(0, cost=1000000)] * 300
        self.assertEqual(judged(boxes, range(300), MOST), [0, 0, 299 * (MOST ** 2 + 1000000), 300])


class NoBreaking(unittest.TestCase):
    def refused(self, boxes, ends):
        self.assertEqual(judged(boxes, ends, 25), [-6], ends)

    def test_no_rising(self):
        boxes = [box(10)] * 4
        for ends in ([1, 0, 3], [2, 1, 3], [3, 2, 1, 0], [0, 2, 1, 3], [3, 3], [0, 0, 3], [0, 1, 1, 3], [3, 2],
                     [0, 1, 2, 3, 3], [1, 3, 2, 3]):
            self.refused(boxes, ends)

    def test_another_last_one(self):
        boxes = [box(10)] * 4
        for ends in ([0], [2], [0, 1, 2], [4], [0, 4], [0, 3, 4], [1, 2, 4], [5], [300], [3, 300]):
            self.refused(boxes, ends)

    def test_below_0(self):
        boxes = [box(10)] * 4
        for ends in ([-1], [-1, 3], [-4, -3, -2, -1], [-1, 0, 3], [-2, -1, 3], [3, -1]):
            self.refused(boxes, ends)

    def test_far_out(self):
        for boxes in ([], [box(10)], [box(10)] * 4, [box(10, cost=-1)] * 300):
            last = len(boxes) - 1
            for ends in ([FAR], [-FAR], [-FAR, FAR], [-FAR, last], [last, FAR], [FAR, last], [0, FAR], [-FAR, 0]):
                self.refused(boxes, ends)

    def test_empty_on_a_row_with_items(self):
        for count in (1, 2, 300):
            self.refused([box(10)] * count, [])

    def test_not_empty_on_an_empty_row(self):
        for ends in ([0], [-1], [1], [0, 1], [0, 0], [-1, 0], [0] * 10000):
            self.refused([], ends)

    def test_behind_a_cost_of_minus_1(self):
        boxes = [box(10, cost=0), box(10, cost=-1), box(10, cost=0), box(10, cost=-1)]
        for ends in ([1, 3], [0, 1, 3], [1, 2, 3], [0, 1, 2, 3]):
            self.refused(boxes, ends)
        for ends in ([3], [0, 3], [2, 3], [0, 2, 3]):
            self.assertEqual(judged(boxes, ends, 10)[0], 0)

    def test_the_first_items_cost(self):
        self.refused([box(10, cost=-1), box(10)], [0, 1])
        self.assertEqual(judged([box(10, cost=-1), box(10)], [1], 20), [0, 0, 0, 1])

    def test_ten_thousand_ends(self):
        boxes = [box(1)] * 300
        for ends in (range(10000), [299] * 10000, [-FAR] * 10000, [0] * 9999 + [299]):
            self.refused(boxes, ends)

    def test_follows_the_row(self):
        told = run(add(box(1), box(1)), judge([0, 1], 1), change(0, box(1, cost=-1)), judge([0, 1], 1),
                   take(0), judge([0, 1], 1), judge([0], 1))
        self.assertEqual(told, [[0], [0, 0, 0, 2], [0], [-6], [0], [-6], [0, 0, 0, 1]])


class Ranges(unittest.TestCase):
    def test_both_ends_and_one_beyond(self):
        boxes = [box(5, cost=2), box(6)]
        for place in range(3):
            for number in (0, MOST):
                wholes = [5, 5, 5]
                wholes[place] = number
                for ends in ([0, 1], [1]):
                    self.assertEqual(judged(boxes, ends, *wholes), [0] + list(breaking_worth(boxes, ends, *wholes)))
            for number in (-1, MOST + 1, -FAR, FAR):
                wholes = [5, 5, 5]
                wholes[place] = number
                self.assertEqual(judged(boxes, [0, 1], *wholes), [-4])
                self.assertEqual(judged([], [], *wholes), [-4])

    def test_ahead_of_no_breaking(self):
        for ends in ([], [0], [1, 0], [FAR], [0] * 10000):
            self.assertEqual(judged([box(5), box(6)], ends, -1), [-4])
            self.assertEqual(judged([box(5), box(6)], ends, 5, MOST + 1, 0), [-4])
            self.assertEqual(judged([box(5), box(6)], ends, 5, 0, -FAR), [-4])
        self.assertEqual(judged([], [0], -1), [-4])

    def test_goes_on_behind_a_refusal(self):
        # The ends of a refused judge look like calls themselves.
        told = run(add(box(5)), judge([4, 4, 3, 0], 5), judge([3, 0, 3, 0], -1), row())
        self.assertEqual(told, [[0], [-6], [-4], [0] + list(box(5))])


class AllBreakings(unittest.TestCase):
    def compare(self, boxes, triple, many_ends):
        breakings = all_breakings(boxes)
        calls = [add(*boxes)]
        expected = [[0]]
        for ends in many_ends:
            good = tuple(ends) in breakings
            calls.append(judge(ends, *triple))
            expected.append([0] + list(breaking_worth(boxes, ends, *triple)) if good else [-6])
        self.assertEqual(run(*calls), expected, (boxes, triple))

    def test_all_rising_ends_of_small_rows(self):
        dice = random.Random(21)
        for turn in range(150):
            boxes = small_row(dice)[:6]
            numbers = range(len(boxes) + 1)
            every = [ends for size in range(len(numbers) + 1) for ends in combinations(numbers, size)]
            self.compare(boxes, small_measure(dice), every)

    def test_any_ends_of_small_rows(self):
        dice = random.Random(22)
        for turn in range(300):
            boxes = small_row(dice)[:4]
            chosen = [[dice.randint(-1, len(boxes)) for k in range(dice.randint(0, 4))] for k in range(40)]
            self.compare(boxes, small_measure(dice), chosen)

    def test_all_breakings_of_wide_rows(self):
        dice = random.Random(23)
        for turn in range(60):
            boxes = wide_row(dice)
            self.compare(boxes, wide_measure(dice), all_breakings(boxes))

    def test_long_rows(self):
        dice = random.Random(24)
        for turn in range(30):
            boxes = long_row(dice, (wide_row, small_row)[turn % 2])
            may_end = [k for k in range(299) if boxes[k][6] != -1]
            ends = sorted(dice.sample(may_end, dice.randint(0, len(may_end)))) + [299]
            triple = (wide_measure, small_measure)[turn % 2](dice)
            self.assertEqual(judged(boxes, ends, *triple), [0] + list(breaking_worth(boxes, ends, *triple)))

    def test_the_best_breaking_is_worth_what_worth_tells(self):
        dice = random.Random(25)
        for turn in range(300):
            boxes = small_row(dice)
            triple = small_measure(dice)
            ends, figures = plain_best(boxes, *triple)
            told = run(add(*boxes), best(*triple), worth(*triple), judge(ends, *triple))
            self.assertEqual(told, [[0], [0] + ends, [0] + figures, [0] + figures])


class Words(unittest.TestCase):
    def test_the_plain_words_on_the_example(self):
        self.assertEqual(breaking_worth(cut(EXAMPLE), (0, 1, 2, 3), 25, 0, 0), (0, 680, 4))


if __name__ == "__main__":
    unittest.main()
