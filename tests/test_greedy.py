"""Promise 9: greedy, on chosen rows and beside the document's words on many rows."""

import random
import unittest

from boxlines.rows import answers
from tests.telling import (EXAMPLE, MOST, add, best, box, change, cut, flat, greedy, long_row, plain_greedy, put,
                           range_runs, row, run, small_measure, small_row, take, wide_measure, wide_row)


def greedy_of(boxes, measure, first=0, indent=0):
    told = run(add(*boxes), greedy(measure, first, indent), row())
    assert told[0] == [0] and told[2] == [0] + flat(boxes), told
    assert told[1][0] == 0, told
    return told[1][1:]


class Examples(unittest.TestCase):
    def test_as_whole_lists(self):
        self.assertEqual(answers([0, 28] + EXAMPLE + [8, 24, 0, 0]), [1, 0, 3, 0, 1, 3])

    def test_the_plain_words_agree(self):
        self.assertEqual(plain_greedy(cut(EXAMPLE), 24, 0, 0), [1, 3])


class Greedy(unittest.TestCase):
    def test_empty_row(self):
        self.assertEqual(answers([8, 0, 0, 0]), [1, 0])
        self.assertEqual(greedy_of([], 0, MOST, MOST), [])
        self.assertEqual(run(add(box(3)), take(0), greedy(5)), [[0], [0], [0]])

    def test_one_item(self):
        for cost in (-1, 0, 9):
            for measure in (0, 9, 10, 11):
                self.assertEqual(greedy_of([box(10, cost=cost)], measure), [0])

    def test_as_many_as_fit(self):
        boxes = [box(10, space=2)] * 5
        for measure, ends in ((9, [0, 1, 2, 3, 4]), (10, [0, 1, 2, 3, 4]), (21, [0, 1, 2, 3, 4]), (22, [1, 3, 4]),
                              (33, [1, 3, 4]), (34, [2, 4]), (46, [3, 4]), (57, [3, 4]), (58, [4])):
            self.assertEqual(greedy_of(boxes, measure), ends)

    def test_with_spaces_shrunk(self):
        boxes = [box(10, space=3, shrink=1)] * 4
        for measure, ends in ((21, [0, 1, 2, 3]), (22, [1, 3]), (33, [1, 3]), (34, [2, 3]), (46, [3])):
            self.assertEqual(greedy_of(boxes, measure), ends)

    def test_shrink_behind_the_line_does_not_help(self):
        boxes = [box(10), box(10, space=5, shrink=5), box(10)]
        self.assertEqual(greedy_of(boxes, 19), [0, 1, 2])
        self.assertEqual(greedy_of(boxes, 20), [1, 2])

    def test_not_the_best_one(self):
        boxes = [box(10), box(10, cost=101), box(10)]
        self.assertEqual(run(add(*boxes), best(20), greedy(20)), [[0], [0, 0, 2], [0, 1, 2]])

    def test_costs_do_not_count(self):
        for cost in (0, 1, 1000000):
            self.assertEqual(greedy_of([box(10, cost=cost)] * 4, 20), [1, 3])

    def test_items_of_no_width_go_with_the_line(self):
        boxes = [box(10), box(0), box(0), box(10), box(0)]
        self.assertEqual(greedy_of(boxes, 10), [2, 4])
        # Overfull, a line ends at the first item at which it may.
        self.assertEqual(greedy_of(boxes, 9), [0, 2, 3, 4])

    def test_no_end_behind_a_cost_of_minus_1(self):
        boxes = [box(10), box(10, cost=-1), box(10), box(10)]
        self.assertEqual(greedy_of(boxes, 20), [0, 2, 3])
        self.assertEqual(greedy_of(boxes, 30), [2, 3])

    def test_the_first_at_which_it_may_end(self):
        boxes = [box(10, cost=-1), box(10, cost=-1), box(10), box(10), box(10, cost=-1), box(10, cost=-1)]
        for measure in (0, 9, 10, 20, 29):
            self.assertEqual(greedy_of(boxes, measure), [2, 3, 5])
        self.assertEqual(greedy_of(boxes, 30), [2, 5])
        self.assertEqual(greedy_of(boxes, 40), [3, 5])
        self.assertEqual(greedy_of([box(10, cost=-1)] * 300, 5), [299])

    def test_not_cut_short_by_a_place_without_a_break(self):
        boxes = [box(10, cost=-1), box(0, space=7, shrink=7, cost=-1), box(5), box(1)]
        self.assertEqual(greedy_of(boxes, 15), [2, 3])
        self.assertEqual(greedy_of(boxes, 16), [3])

    def test_the_last_item_whatever_its_cost(self):
        for cost in (-1, 0, 5):
            self.assertEqual(greedy_of([box(10), box(10, cost=cost)], 20), [1])
            self.assertEqual(greedy_of([box(10), box(10, cost=cost)], 19), [0, 1])

    def test_rooms(self):
        boxes = [box(10)] * 6
        self.assertEqual(greedy_of(boxes, 30, 10, 20), [1, 2, 3, 4, 5])
        self.assertEqual(greedy_of(boxes, 30, 20, 10), [0, 2, 4, 5])
        self.assertEqual(greedy_of(boxes, 30, 30, 0), [0, 3, 5])

    def test_rooms_below_0(self):
        boxes = [box(0)] * 3
        self.assertEqual(greedy_of(boxes, 0), [2])
        self.assertEqual(greedy_of(boxes, 0, 1, 0), [0, 2])
        self.assertEqual(greedy_of(boxes, 0, 0, 1), [2])
        self.assertEqual(greedy_of(boxes, 0, MOST, MOST), [0, 1, 2])

    def test_three_hundred_items(self):
        boxes = [box(10, space=2, shrink=1)] * 300
        self.assertEqual(greedy_of(boxes, 0), [*range(300)])
        self.assertEqual(greedy_of(boxes, 32), [*range(2, 300, 3)])
        self.assertEqual(greedy_of(boxes, 3299), [299])
        self.assertEqual(greedy_of(boxes, 3298), [298, 299])
        self.assertEqual(greedy_of([box(1000000, 1000000)] * 300, MOST), [49, 99, 149, 199, 249, 299])

    def test_follows_the_row(self):
        told = run(add(box(10), box(10)), greedy(20), put(1, box(10)), greedy(20), change(0, box(20)), greedy(20),
                   take(0), greedy(20))
        self.assertEqual(told, [[0], [0, 1], [0], [0, 1, 2], [0], [0, 0, 2], [0], [0, 1]])


class Ranges(unittest.TestCase):
    def test_both_ends_and_beyond(self):
        for told, expected in range_runs(greedy, plain_greedy, [11, 5, 5], [MOST, MOST, MOST]):
            self.assertEqual(told, expected)


class ManyRows(unittest.TestCase):
    def compare(self, boxes, triples):
        calls = [add(*boxes)] + [greedy(*triple) for triple in triples]
        expected = [[0]] + [[0] + plain_greedy(boxes, *triple) for triple in triples]
        self.assertEqual(run(*calls), expected, (boxes, triples))

    def test_small_rows(self):
        dice = random.Random(31)
        for turn in range(1500):
            self.compare(small_row(dice), [small_measure(dice) for k in range(5)])

    def test_every_small_measure(self):
        dice = random.Random(32)
        for turn in range(60):
            self.compare(small_row(dice), [(measure, dice.choice((0, 4)), dice.choice((0, 4))) for measure in range(60)])

    def test_wide_rows(self):
        dice = random.Random(33)
        for turn in range(400):
            self.compare(wide_row(dice), [wide_measure(dice) for k in range(4)])

    def test_long_rows(self):
        dice = random.Random(34)
        for turn in range(10):
            self.compare(long_row(dice, small_row), [(dice.randint(0, 400), dice.randint(0, 9), dice.randint(0, 9))])


if __name__ == "__main__":
    unittest.main()
