"""Promises 6 and 7: best and worth, on chosen rows and on all breakings of many rows."""

import random
import unittest

from boxlines.rows import answers
from tests.telling import (EXAMPLE, FAR, MOST, add, all_breakings, best, box, breaking_worth, change, cut, flat,
                           forward_best, long_row, plain_best, put, range_runs, row, run, small_measure, small_row,
                           take, wide_measure, wide_row, worth)


def both(boxes, measure, first=0, indent=0):
    """What best and worth answer, without the leading 0 of each."""
    told = run(add(*boxes), best(measure, first, indent), worth(measure, first, indent))
    assert told[0] == [0] and told[1][0] == 0 and told[2][0] == 0, told
    return told[1][1:], told[2][1:]


class Examples(unittest.TestCase):
    def test_as_whole_lists(self):
        calls = [0, 28] + EXAMPLE + [5, 25, 0, 0, 6, 25, 0, 0, 5, 24, 0, 12, 6, 24, 0, 12, 5, 8, 0, 0, 6, 8, 0, 0]
        told = [1, 0,
                3, 0, 1, 3,
                4, 0, 0, 9, 2,
                4, 0, 1, 2, 3,
                4, 0, 0, 10, 3,
                5, 0, 0, 1, 2, 3,
                4, 0, 8, 21, 4]
        self.assertEqual(answers(calls), told)

    def test_the_plain_words_agree(self):
        boxes = cut(EXAMPLE)
        self.assertEqual(breaking_worth(boxes, (0, 1, 2, 3), 25, 0, 0), (0, 680, 4))
        self.assertEqual(plain_best(boxes, 25, 0, 0), ([1, 3], [0, 9, 2]))
        self.assertEqual(len(all_breakings(boxes)), 8)


class Lines(unittest.TestCase):
    def test_empty_row(self):
        self.assertEqual(answers([5, 0, 0, 0, 6, 0, 0, 0]), [1, 0, 4, 0, 0, 0, 0])
        self.assertEqual(run(best(0, MOST, MOST), worth(0, MOST, MOST)), [[0], [0, 0, 0, 0]])
        self.assertEqual(run(add(box(3)), take(0), best(5), worth(5)), [[0], [0], [0], [0, 0, 0, 0]])

    def test_one_item(self):
        self.assertEqual(both([box(10)], 10), ([0], [0, 0, 1]))
        self.assertEqual(both([box(10)], 12), ([0], [0, 0, 1]))
        self.assertEqual(both([box(10)], 7), ([0], [3, 9, 1]))

    def test_space_and_shrink_of_the_last_item_do_not_count(self):
        self.assertEqual(both([box(10, space=50, shrink=40)], 10), ([0], [0, 0, 1]))
        self.assertEqual(both([box(10, space=50, shrink=40)], 9), ([0], [1, 1, 1]))
        boxes = [box(10, space=50, shrink=40), box(10, space=9)]
        self.assertEqual(both(boxes, 11), ([0, 1], [0, 1, 2]))

    def test_cost_of_the_last_item_does_not_count(self):
        for cost in (-1, 0, 1000000):
            self.assertEqual(both([box(10, cost=cost)], 10), ([0], [0, 0, 1]))
            self.assertEqual(both([box(10, cost=4), box(10, cost=cost)], 10), ([0, 1], [0, 4, 2]))

    def test_last_line_with_and_without_slack_below_0(self):
        boxes = [box(10, space=4, shrink=4, cost=-1), box(10)]
        self.assertEqual(both(boxes, 25), ([1], [0, 0, 1]))
        self.assertEqual(both(boxes, 24), ([1], [0, 0, 1]))
        self.assertEqual(both(boxes, 23), ([1], [0, 1, 1]))
        self.assertEqual(both(boxes, 20), ([1], [0, 16, 1]))
        self.assertEqual(both(boxes, 19), ([1], [1, 25, 1]))

    def test_stretch_heights_and_depths_do_not_count(self):
        plain = [box(10, space=3, shrink=1, cost=2) for k in range(6)]
        decked = [box(10, 3, 1, 2, stretch=1000 * k, height=7 * k, depth=-9 * k) for k in range(6)]
        for measure in (0, 9, 20, 25, 40):
            self.assertEqual(both(plain, measure), both(decked, measure))

    def test_no_break_behind_a_cost_of_minus_1(self):
        boxes = [box(10, cost=-1), box(10, cost=-1), box(10)]
        self.assertEqual(both(boxes, 10), ([2], [20, 400, 1]))
        boxes = [box(10, cost=-1), box(10, cost=0), box(10)]
        self.assertEqual(both(boxes, 10), ([1, 2], [10, 100, 2]))

    def test_rooms(self):
        boxes = [box(10), box(10), box(10)]
        self.assertEqual(both(boxes, 20, 10, 0), ([0, 2], [0, 0, 2]))
        self.assertEqual(both(boxes, 20, 0, 10), ([1, 2], [0, 0, 2]))
        self.assertEqual(both(boxes, 20, 10, 10), ([0, 1, 2], [0, 0, 3]))

    def test_rooms_below_0(self):
        self.assertEqual(both([box(10)], 0, 5, 0), ([0], [15, 225, 1]))
        self.assertEqual(both([box(0)], 0, 1, 0), ([0], [1, 1, 1]))
        # The first line can't be had without its room below 0, the second can.
        self.assertEqual(both([box(10), box(10)], 0, 0, 5), ([1], [20, 400, 1]))
        self.assertEqual(both([box(10), box(10)], 10, 15, 0), ([0, 1], [15, 225, 2]))
        self.assertEqual(both([box(10, cost=3), box(0)], 0, MOST, MOST), ([1], [MOST + 10, (MOST + 10) ** 2, 1]))


class Better(unittest.TestCase):
    def test_less_overfull_first(self):
        boxes = [box(10, cost=1000000), box(10)]
        self.assertEqual(both(boxes, 10), ([0, 1], [0, 1000000, 2]))
        self.assertEqual(both(boxes, 19), ([0, 1], [0, 1000081, 2]))
        self.assertEqual(both(boxes, 20), ([1], [0, 0, 1]))

    def test_the_sum_of_overfull_counts_not_the_greatest(self):
        # In one line overfull by 6, in two by 1 each.
        self.assertEqual(both([box(5, space=8, shrink=8), box(5)], 8, 4, 4), ([0, 1], [2, 2, 2]))
        # In one line overfull by 3, in two by 2 each.
        self.assertEqual(both([box(1, space=8, shrink=8), box(1)], 0, 1, 1), ([1], [3, 121, 1]))

    def test_how_many_lines_are_overfull_does_not_count(self):
        # In one line overfull by 3, in two by 2 and by 3.
        boxes = [box(0, space=1000, shrink=1000), box(0, space=1000, shrink=1000), box(1)]
        self.assertEqual(both(boxes, 0, 2, 2), ([2], [3, 2003 ** 2, 1]))

    def test_overfull_less_by_1_beats_any_cost(self):
        boxes = [box(0, 1000000, 1000000) for k in range(300)]
        self.assertEqual(both(boxes, 0, 0, 1), ([299], [0, 299000000 ** 2, 1]))
        boxes = [box(0, 1000000, 1000000, cost=-1) for k in range(299)] + [box(1)]
        self.assertEqual(both(boxes, MOST, MOST, MOST), ([299], [1, 299000001 ** 2, 1]))

    def test_then_less_cost(self):
        boxes = [box(10, cost=0), box(10, cost=101), box(10)]
        self.assertEqual(both(boxes, 20), ([0, 2], [0, 100, 2]))
        boxes = [box(10, cost=0), box(10, cost=99), box(10)]
        self.assertEqual(both(boxes, 20), ([1, 2], [0, 99, 2]))

    def test_less_cost_with_more_lines(self):
        # In one line the slack is -3 and costs 9; in two the first one's is 1, and the break costs 2.
        boxes = [box(19, space=4, shrink=4, cost=2), box(0)]
        self.assertEqual(both(boxes, 20), ([0, 1], [0, 3, 2]))

    def test_less_cost_with_the_same_overfull_above_0(self):
        boxes = [box(10, cost=0), box(1, cost=0), box(1, cost=0), box(6)]
        self.assertEqual(both(boxes, 8), ([0, 3], [2, 4, 2]))
        boxes = [box(10, cost=30), box(0, cost=0), box(2, cost=0), box(6)]
        self.assertEqual(both(boxes, 8), ([1, 3], [2, 4, 2]))

    def test_then_fewer_lines(self):
        self.assertEqual(both([box(0)] * 3, 0), ([2], [0, 0, 1]))
        self.assertEqual(both([box(5)] + [box(0)] * 3 + [box(5)], 5), ([0, 4], [0, 0, 2]))
        # As little cost in one line as in two: 4 for the slack -2, or 1 for the slack 1 and 3 for the break.
        boxes = [box(19, space=3, shrink=3, cost=3), box(0)]
        self.assertEqual(both(boxes, 20), ([1], [0, 4, 1]))

    def test_fewer_lines_with_overfull_above_0(self):
        # Break or not: overfull by 2 and a cost of 4.
        self.assertEqual(both([box(10), box(0)], 8, 0, 8), ([1], [2, 4, 1]))
        self.assertEqual(both([box(10), box(0), box(0)], 8), ([2], [2, 4, 1]))

    def test_then_the_earlier_end(self):
        boxes = [box(10, cost=0), box(10, cost=100), box(10)]
        self.assertEqual(breaking_worth(boxes, (0, 2), 20, 0, 0), breaking_worth(boxes, (1, 2), 20, 0, 0))
        self.assertEqual(both(boxes, 20), ([0, 2], [0, 100, 2]))

    def test_the_earlier_end_in_a_further_line(self):
        boxes = [box(20), box(10, cost=0), box(10, cost=100), box(10)]
        self.assertEqual(both(boxes, 20), ([0, 1, 3], [0, 100, 3]))
        boxes = [box(20), box(20)] + boxes
        self.assertEqual(both(boxes, 20), ([0, 1, 2, 3, 5], [0, 100, 5]))

    def test_the_earlier_end_in_each_line(self):
        # Each item of the width 0 can stand in the line before or behind.
        boxes = [box(0), box(10), box(0), box(10), box(0), box(10)]
        self.assertEqual(both(boxes, 10), ([1, 3, 5], [0, 0, 3]))
        boxes = [box(10), box(0), box(10), box(0), box(10)]
        self.assertEqual(both(boxes, 10), ([0, 2, 4], [0, 0, 3]))

    def test_the_earlier_end_when_all_is_overfull(self):
        boxes = [box(10), box(0), box(10)]
        self.assertEqual(both(boxes, 8), ([0, 2], [4, 8, 2]))


class Ranges(unittest.TestCase):
    def test_both_ends_and_beyond(self):
        for call, place in ((best, 0), (worth, 1)):
            plain = lambda *given: plain_best(*given)[place]
            for told, expected in range_runs(call, plain, [5, 5, 5], [MOST, MOST, MOST]):
                self.assertEqual(told, expected)

    def test_several_out_of_range(self):
        self.assertEqual(run(best(-1, -1, -1), worth(MOST + 1, -FAR, FAR), best(0, 0, MOST + 1)), [[-4], [-4], [-4]])

    def test_the_greatest_slacks(self):
        self.assertEqual(both([box(0, cost=1000000)] * 2, MOST), ([1], [0, 0, 1]))
        boxes = [box(1000000, 1000000, 0, -1)] * 300
        natural = 599 * 1000000
        self.assertEqual(both(boxes, 0, MOST, 0), ([299], [natural + MOST, (natural + MOST) ** 2, 1]))
        boxes = [box(1000000, 0, 0, 1000000)] * 300
        self.assertEqual(both(boxes, 0, 0, 0), ([*range(300)], [300000000, 300 * 10 ** 12 + 299000000, 300]))


class AsTheRowChanges(unittest.TestCase):
    def test_answers_follow_the_row(self):
        told = run(add(box(10), box(10)), best(20), put(1, box(10)), best(20), worth(20),
                   change(0, box(20)), best(20), worth(20), take(0), best(20), worth(20))
        self.assertEqual(told, [[0], [0, 1], [0], [0, 1, 2], [0, 0, 0, 2],
                                [0], [0, 0, 2], [0, 0, 0, 2], [0], [0, 1], [0, 0, 0, 1]])

    def test_best_and_worth_leave_the_row(self):
        boxes = [box(k, k, k // 2, k - 1) for k in range(20)]
        self.assertEqual(run(add(*boxes), best(30), worth(30), row())[3], [0] + flat(boxes))

    def test_as_before_behind_a_refusal(self):
        told = run(add(box(10), box(10)), best(10), put(3, box(1)), change(2, box(1)), take(2), add((1,)), best(-1),
                   best(10))
        self.assertEqual(told, [[0], [0, 0, 1], [-5], [-5], [-5], [-1], [-4], [0, 0, 1]])


class AllBreakings(unittest.TestCase):
    def compare(self, boxes, triples):
        calls = [add(*boxes)]
        expected = [[0]]
        for triple in triples:
            ends, figures = plain_best(boxes, *triple)
            calls += [best(*triple), worth(*triple)]
            expected += [[0] + ends, [0] + figures]
        self.assertEqual(run(*calls), expected, (boxes, triples))

    def test_small_rows(self):
        dice = random.Random(1)
        for turn in range(3000):
            boxes = small_row(dice)
            self.compare(boxes, [small_measure(dice) for k in range(3)])

    def test_wide_rows(self):
        dice = random.Random(2)
        for turn in range(600):
            boxes = wide_row(dice)
            self.compare(boxes, [wide_measure(dice) for k in range(3)])

    def test_every_small_measure(self):
        dice = random.Random(3)
        for turn in range(40):
            boxes = small_row(dice)
            self.compare(boxes, [(measure, first, indent) for measure in range(0, 40, 3)
                                 for first in (0, 4) for indent in (0, 4)])

    def test_forward_agrees_with_all(self):
        dice = random.Random(4)
        for turn in range(300):
            boxes = small_row(dice) or [box(1)]
            triple = (dice.randint(0, 30), dice.randint(0, 9), dice.randint(0, 9))
            self.assertEqual(forward_best(boxes, *triple), plain_best(boxes, *triple))

    def test_long_rows(self):
        dice = random.Random(6)
        for turn in range(16):
            boxes = long_row(dice, (wide_row, small_row)[turn % 2])
            unit = 1 if turn % 2 else 100000
            triple = (dice.randint(0, 200) * unit, dice.choice((0, 7 * unit)), dice.choice((0, 9 * unit, 300 * unit)))
            self.assertEqual(both(boxes, *triple), forward_best(boxes, *triple))


if __name__ == "__main__":
    unittest.main()
