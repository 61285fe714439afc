"""Promises 13 and 14: natural and narrowest, on chosen rows and beside the measures from 0 on."""

import random
import unittest

from boxlines.rows import answers
from tests.telling import (EXAMPLE, MOST, add, box, change, cut, flat, forward_best, narrowest, natural,
                           plain_narrowest, put, row, run, small_row, take, wide_row, worth)


def natural_of(boxes):
    told = run(add(*boxes), natural(), row())
    assert told[0] == [0] and told[2] == [0] + flat(boxes), told
    return told[1]


def narrowest_of(boxes):
    told = run(add(*boxes), narrowest(), row())
    assert told[0] == [0] and told[2] == [0] + flat(boxes), told
    return told[1]


class Examples(unittest.TestCase):
    def test_as_whole_lists(self):
        self.assertEqual(answers([0, 28] + EXAMPLE + [12, 13]), [1, 0, 2, 0, 49, 2, 0, 10])

    def test_the_plain_words_agree(self):
        self.assertEqual(plain_narrowest(cut(EXAMPLE)), 10)


class Natural(unittest.TestCase):
    def test_empty_row(self):
        self.assertEqual(answers([12]), [2, 0, 0])
        self.assertEqual(run(add(box(3)), take(0), natural()), [[0], [0], [0, 0]])

    def test_one_item(self):
        self.assertEqual(natural_of([box(10, space=5, shrink=4, stretch=3)]), [0, 10])
        self.assertEqual(natural_of([box(0, space=5)]), [0, 0])

    def test_widths_and_spaces_between(self):
        self.assertEqual(natural_of([box(10, space=5), box(20, space=7), box(30, space=9)]), [0, 72])

    def test_nothing_else_counts(self):
        boxes = [box(10, 5, 5, cost, 100, 200, 300) for cost in (-1, 0, 1000000)]
        self.assertEqual(natural_of(boxes), [0, 40])

    def test_three_hundred_items(self):
        self.assertEqual(natural_of([box(1000000, 1000000)] * 300), [0, 599000000])
        self.assertEqual(natural_of([box(0)] * 300), [0, 0])

    def test_follows_the_row(self):
        told = run(natural(), add(box(10, 1)), natural(), put(0, box(20, 3)), natural(), change(1, box(5, 9)),
                   natural(), take(0), natural(), take(0), natural())
        self.assertEqual(told, [[0, 0], [0], [0, 10], [0], [0, 33], [0], [0, 28], [0], [0, 5], [0], [0, 0]])

    def test_many_rows(self):
        dice = random.Random(61)
        for turn in range(400):
            boxes = (wide_row if turn % 2 else small_row)(dice)
            expected = sum(b[0] for b in boxes) + sum(b[3] for b in boxes[:-1])
            self.assertEqual(natural_of(boxes), [0, expected])


class Narrowest(unittest.TestCase):
    def test_empty_row(self):
        self.assertEqual(answers([13]), [2, 0, 0])
        self.assertEqual(run(add(box(3)), take(0), narrowest()), [[0], [0], [0, 0]])

    def test_one_item(self):
        for cost in (-1, 0, 9):
            self.assertEqual(narrowest_of([box(10, 5, 5, cost)]), [0, 10])
            self.assertEqual(narrowest_of([box(0, 5, 5, cost)]), [0, 0])

    def test_the_widest_of_the_shortest_lines(self):
        self.assertEqual(narrowest_of([box(5), box(9), box(7)]), [0, 9])
        self.assertEqual(narrowest_of([box(9), box(5), box(7)]), [0, 9])
        self.assertEqual(narrowest_of([box(5), box(7), box(9)]), [0, 9])

    def test_lines_that_may_not_be_broken_further(self):
        boxes = [box(10, space=4, shrink=3, cost=-1), box(10, space=50, shrink=1, cost=0), box(20, cost=9)]
        self.assertEqual(narrowest_of(boxes), [0, 21])
        boxes = [box(10, space=4, shrink=3, cost=0), box(10, space=4, shrink=1, cost=-1), box(6, cost=-1)]
        self.assertEqual(narrowest_of(boxes), [0, 19])
        boxes = [box(1, space=9, shrink=9, cost=-1)] * 5
        self.assertEqual(narrowest_of(boxes), [0, 5])

    def test_the_last_items_cost(self):
        for cost in (-1, 0, 5):
            self.assertEqual(narrowest_of([box(3), box(8, 9, 0, cost)]), [0, 8])

    def test_all_0(self):
        self.assertEqual(narrowest_of([box(0, 7, 7, -1)] * 5), [0, 0])
        self.assertEqual(narrowest_of([box(0, 7, 0, 0)] * 5), [0, 0])
        self.assertEqual(narrowest_of([box(0)] * 300), [0, 0])

    def test_three_hundred_items(self):
        self.assertEqual(narrowest_of([box(1000000, 1000000)] * 300), [0, 1000000])
        boxes = [box(1000000, 1000000, 1000000, -1)] * 99 + [box(1000000, cost=0)] * 201
        self.assertEqual(narrowest_of(boxes), [0, MOST])
        self.assertEqual(run(add(*boxes), worth(MOST), worth(MOST - 1))[2][1], 1)

    def test_beyond_what_a_measure_may_be(self):
        self.assertEqual(narrowest_of([box(1000000, 1000000, 0, -1)] * 300), [0, 599000000])
        self.assertEqual(narrowest_of([box(1000000, 1, 0, -1)] * 100 + [box(1)]), [0, 100000101])

    def test_follows_the_row(self):
        told = run(narrowest(), add(box(10, 1)), narrowest(), put(0, box(20, 3, 1, -1)), narrowest(),
                   change(1, box(5, 9)), narrowest(), take(0), narrowest(), take(0), narrowest())
        self.assertEqual(told, [[0, 0], [0], [0, 10], [0], [0, 32], [0], [0, 27], [0], [0, 5], [0], [0, 0]])

    def test_the_measures_from_0_on(self):
        dice = random.Random(62)
        for turn in range(250):
            boxes = small_row(dice)[:7]
            self.assertEqual(narrowest_of(boxes), [0, plain_narrowest(boxes)], boxes)

    def test_one_less_is_overfull(self):
        dice = random.Random(63)
        for turn in range(120):
            boxes = wide_row(dice)
            if turn % 4 == 0:
                while len(boxes) < 40:
                    boxes += wide_row(dice)
            measure = narrowest_of(boxes)[1]
            self.assertEqual(forward_best(boxes, measure, 0, 0)[1][0], 0)
            if measure > 0:
                self.assertGreater(forward_best(boxes, measure - 1, 0, 0)[1][0], 0)


if __name__ == "__main__":
    unittest.main()
