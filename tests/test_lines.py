"""Promise 10: lines, on chosen rows and beside the document's words on many rows."""

import random
import unittest

from boxlines.rows import answers
from tests.telling import (EXAMPLE, MOST, add, best, box, change, flat, forward_best, line_worth, lines, long_row,
                           plain_lines, put, range_runs, row, run, small_measure, small_row, take, wide_measure,
                           wide_row, worth)


def lines_of(boxes, measure, first=0, indent=0):
    """What lines answers, six numbers in a tuple for each line."""
    told = run(add(*boxes), lines(measure, first, indent), row())
    assert told[0] == [0] and told[2] == [0] + flat(boxes), told
    assert told[1][0] == 0 and len(told[1]) % 6 == 1, told
    return [tuple(told[1][at:at + 6]) for at in range(1, len(told[1]), 6)]


def six(line):
    return (line["begin"], line["end"], line["slack"], line["over"], line["height"], line["depth"])


def plain_numbers(boxes, measure, first, indent):
    return flat(six(line) for line in plain_lines(boxes, measure, first, indent))


class WholeLists(unittest.TestCase):
    def test_the_examples_row(self):
        calls = [0, 28] + EXAMPLE + [9, 25, 0, 0, 9, 24, 0, 12, 9, 8, 0, 0]
        told = [1, 0,
                13, 0, 0, 1, 2, 0, 7, 2, 2, 3, 2, 0, 8, 3,
                19, 0, 0, 1, 1, 0, 7, 2, 2, 2, 2, 0, 8, 2, 3, 3, 2, 0, 7, 3,
                25, 0, 0, 0, -2, 2, 7, 2, 1, 1, -2, 2, 7, 2, 2, 2, -2, 2, 8, 2, 3, 3, -2, 2, 7, 3]
        self.assertEqual(answers(calls), told)

    def test_refusals(self):
        self.assertEqual(answers([9, -1, 0, 0, 9, 0, 100000001, 0, 9, 0, 0, 0]), [1, -4, 1, -4, 1, 0])


class Lines(unittest.TestCase):
    def test_empty_row(self):
        self.assertEqual(answers([9, 0, 0, 0]), [1, 0])
        self.assertEqual(lines_of([], 0, MOST, MOST), [])
        self.assertEqual(run(add(box(3)), take(0), lines(5)), [[0], [0], [0]])

    def test_one_item(self):
        item = box(10, height=4, depth=-5, cost=-1)
        self.assertEqual(lines_of([item], 12), [(0, 0, 2, 0, 4, -5)])
        self.assertEqual(lines_of([item], 10), [(0, 0, 0, 0, 4, -5)])
        self.assertEqual(lines_of([item], 7), [(0, 0, -3, 3, 4, -5)])

    def test_slack_is_told_of_the_last_line_too(self):
        self.assertEqual(lines_of([box(10), box(4)], 11), [(0, 0, 1, 0, 0, 0), (1, 1, 7, 0, 0, 0)])

    def test_slack_and_overfull(self):
        boxes = [box(10, space=6, shrink=4, cost=-1), box(10, space=9, shrink=9, cost=0), box(1)]
        self.assertEqual(lines_of(boxes, 27), [(0, 1, 1, 0, 0, 0), (2, 2, 26, 0, 0, 0)])
        self.assertEqual(lines_of(boxes, 26), [(0, 1, 0, 0, 0, 0), (2, 2, 25, 0, 0, 0)])
        self.assertEqual(lines_of(boxes, 25), [(0, 1, -1, 0, 0, 0), (2, 2, 24, 0, 0, 0)])
        self.assertEqual(lines_of(boxes, 22), [(0, 1, -4, 0, 0, 0), (2, 2, 21, 0, 0, 0)])
        self.assertEqual(lines_of(boxes, 21), [(0, 1, -5, 1, 0, 0), (2, 2, 20, 0, 0, 0)])
        self.assertEqual(lines_of(boxes, 0), [(0, 1, -26, 22, 0, 0), (2, 2, -1, 1, 0, 0)])
        # In two lines they would be overfull by 22 and by 4.
        self.assertEqual(lines_of(boxes, 0, 0, 3), [(0, 2, -36, 23, 0, 0)])

    def test_overfull_line_that_is_the_last(self):
        boxes = [box(10, space=6, shrink=4, cost=-1), box(10)]
        for measure, slack, overfull in ((27, 1, 0), (26, 0, 0), (22, -4, 0), (21, -5, 1), (0, -26, 22)):
            self.assertEqual(lines_of(boxes, measure), [(0, 1, slack, overfull, 0, 0)])

    def test_rooms(self):
        boxes = [box(10)] * 3
        self.assertEqual(lines_of(boxes, 20, 10, 0), [(0, 0, 0, 0, 0, 0), (1, 2, 0, 0, 0, 0)])
        self.assertEqual(lines_of(boxes, 21, 0, 11), [(0, 1, 1, 0, 0, 0), (2, 2, 0, 0, 0, 0)])

    def test_rooms_below_0(self):
        self.assertEqual(lines_of([box(0)], 0, 1, 0), [(0, 0, -1, 1, 0, 0)])
        boxes = [box(5, cost=0), box(7)]
        self.assertEqual(lines_of(boxes, 3, 8, 0), [(0, 0, -10, 10, 0, 0), (1, 1, -4, 4, 0, 0)])
        self.assertEqual(lines_of(boxes, 0, MOST, MOST), [(0, 1, -MOST - 12, MOST + 12, 0, 0)])

    def test_the_greatest_heights_and_depths(self):
        boxes = [box(10, height=3, depth=-9, cost=-1), box(10, height=8, depth=1, cost=-1),
                 box(10, height=5, depth=4, cost=0), box(10, height=-6, depth=7)]
        self.assertEqual(lines_of(boxes, 30), [(0, 2, 0, 0, 8, 4), (3, 3, 20, 0, -6, 7)])

    def test_heights_and_depths_below_0(self):
        boxes = [box(10, height=-3, depth=-9, cost=-1), box(10, height=-8, depth=-1, cost=0),
                 box(10, height=-1000000, depth=-1000000)]
        self.assertEqual(lines_of(boxes, 20), [(0, 1, 0, 0, -3, -1), (2, 2, 10, 0, -1000000, -1000000)])

    def test_three_hundred_items(self):
        boxes = [box(1, cost=0, height=k, depth=-k) for k in range(300)]
        self.assertEqual(lines_of(boxes, 1), [(k, k, 0, 0, k, -k) for k in range(300)])
        self.assertEqual(lines_of(boxes, 300), [(0, 299, 0, 0, 299, 0)])
        boxes = [box(1000000, 1000000, 0, -1)] * 300
        natural = 599000000
        self.assertEqual(lines_of(boxes, 0, MOST, 0), [(0, 299, -natural - MOST, natural + MOST, 0, 0)])

    def test_follows_the_row(self):
        told = run(add(box(10)), lines(10), put(1, box(9, height=2)), lines(10), change(0, box(8)), lines(10),
                   take(0), lines(10))
        self.assertEqual(told, [[0], [0, 0, 0, 0, 0, 0, 0],
                                [0], [0, 0, 0, 0, 0, 0, 0, 1, 1, 1, 0, 2, 0],
                                [0], [0, 0, 0, 2, 0, 0, 0, 1, 1, 1, 0, 2, 0],
                                [0], [0, 0, 0, 1, 0, 2, 0]])


class Ranges(unittest.TestCase):
    def test_both_ends_and_beyond(self):
        for told, expected in range_runs(lines, plain_numbers, [11, 5, 5], [MOST, MOST, MOST]):
            self.assertEqual(told, expected)


class ManyRows(unittest.TestCase):
    def compare(self, boxes, triple):
        told = lines_of(boxes, *triple)
        self.assertEqual(told, [six(line) for line in plain_lines(boxes, *triple)], (boxes, triple))

    def test_small_rows(self):
        dice = random.Random(41)
        for turn in range(1500):
            self.compare(small_row(dice), small_measure(dice))

    def test_wide_rows(self):
        dice = random.Random(42)
        for turn in range(400):
            self.compare(wide_row(dice), wide_measure(dice))

    def test_long_rows(self):
        dice = random.Random(43)
        for turn in range(6):
            boxes = long_row(dice, small_row)
            triple = (dice.randint(0, 100), dice.randint(0, 9), dice.randint(0, 9))
            begin = 0
            expected = []
            for end in forward_best(boxes, *triple)[0]:
                room = triple[0] - triple[2 if expected else 1]
                inside = boxes[begin:end + 1]
                slack = room - sum(b[0] for b in inside) - sum(b[3] for b in inside[:-1])
                overfull = line_worth(boxes, begin, end, room)[0]
                expected.append((begin, end, slack, overfull, max(b[1] for b in inside), max(b[2] for b in inside)))
                begin = end + 1
            self.assertEqual(lines_of(boxes, *triple), expected)

    def test_beside_best_and_worth(self):
        dice = random.Random(44)
        for turn in range(300):
            boxes = small_row(dice)
            triple = small_measure(dice)
            found = lines_of(boxes, *triple)
            told = run(add(*boxes), best(*triple), worth(*triple))
            self.assertEqual([line[1] for line in found], told[1][1:])
            self.assertEqual([sum(line[3] for line in found), len(found)], [told[2][1], told[2][3]])


if __name__ == "__main__":
    unittest.main()
