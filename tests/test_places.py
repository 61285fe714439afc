"""Promises 11 and 12: places and box, on chosen rows and beside the document's words on many rows."""

import random
import unittest

from boxlines.rows import answers
from tests.telling import (EXAMPLE, FAR, MOST, MOST_LEAD, add, box, change, cut, even_spaces, flat, outer, places,
                           plain_box, plain_line, plain_places, put, range_runs, row, run, small_measure, small_row,
                           take, wide_measure, wide_row)


def placed(boxes, measure, first=0, indent=0, even=0, lead=0, gap=0):
    """What places answers, a pair for each item."""
    told = run(add(*boxes), places(measure, first, indent, even, lead, gap), row())
    assert told[0] == [0] and told[2] == [0] + flat(boxes), told
    assert told[1][0] == 0 and len(told[1]) == 1 + 2 * len(boxes), told
    return [tuple(told[1][at:at + 2]) for at in range(1, len(told[1]), 2)]


def even_xs(boxes, measure, first=0, indent=0):
    return [x for x, y in placed(boxes, measure, first, indent, 1)]


def plain_xs(boxes, measure, first=0, indent=0):
    return [x for x, y in placed(boxes, measure, first, indent, 0)]


def ys(boxes, measure, lead=0, gap=0):
    return [y for x, y in placed(boxes, measure, 0, 0, 0, lead, gap)]


def boxed(boxes, measure, first=0, indent=0, lead=0, gap=0):
    told = run(add(*boxes), outer(measure, first, indent, lead, gap), row())
    assert told[0] == [0] and told[2] == [0] + flat(boxes), told
    assert told[1][0] == 0 and len(told[1]) == 4, told
    return told[1][1:]


class Examples(unittest.TestCase):
    def test_places_as_whole_lists(self):
        calls = [0, 28] + EXAMPLE + [10, 25, 0, 0, 1, 12, 1]
        self.assertEqual(answers(calls), [1, 0, 9, 0, 0, -7, 15, -7, 0, -19, 13, -19])

    def test_not_even_as_whole_lists(self):
        calls = [0, 28] + EXAMPLE + [10, 25, 0, 0, 0, 12, 1, 10, 24, 0, 12, 0, 0, 3]
        told = [1, 0,
                9, 0, 0, -7, 13, -7, 0, -19, 13, -19,
                9, 0, 0, -7, 13, -7, 12, -20, 12, -32]
        self.assertEqual(answers(calls), told)

    def test_box_as_whole_lists(self):
        calls = [0, 28] + EXAMPLE + [11, 25, 0, 0, 12, 1, 11, 24, 0, 12, 0, 3, 11, 8, 0, 0, 0, 0]
        self.assertEqual(answers(calls), [1, 0, 4, 0, 23, -19, 3, 4, 0, 23, -32, 3, 4, 0, 10, -35, 3])

    def test_the_plain_words_agree(self):
        self.assertEqual(plain_places(cut(EXAMPLE), 25, 0, 0, 1, 12, 1), [(0, -7), (15, -7), (0, -19), (13, -19)])

    def test_refusals(self):
        calls = [10, 0, 0, 0, 2, 0, 0, 11, 0, 0, 0, -1, 0, 10, 0, 0, 0, 1, 0, 0, 11, 0, 0, 0, 0, 0]
        self.assertEqual(answers(calls), [1, -4, 1, -4, 1, 0, 4, 0, 0, 0, 0])


class NotEven(unittest.TestCase):
    def test_empty_row(self):
        self.assertEqual(answers([10, 0, 0, 0, 0, 0, 0, 10, 0, 0, 0, 1, 0, 0]), [1, 0, 1, 0])
        self.assertEqual(placed([], 0, MOST, MOST, 1, MOST_LEAD, MOST_LEAD), [])
        self.assertEqual(run(add(box(3)), take(0), places(5)), [[0], [0], [0]])

    def test_one_item(self):
        for even in (0, 1):
            for measure in (0, 10, 20):
                self.assertEqual(placed([box(10, 5, 5, -1, 9, 4, 3)], measure, 6, 2, even, 50, 50), [(6, -4)])

    def test_spaces_as_they_are(self):
        boxes = [box(10, space=3, shrink=2, stretch=5, cost=-1), box(20, space=4, stretch=1, cost=-1),
                 box(30, space=9, cost=0), box(5)]
        for measure in (0, 60, 67, 70):
            self.assertEqual(plain_xs(boxes, measure), [0, 13, 37, 0])

    def test_indents(self):
        boxes = [box(10)] * 4
        self.assertEqual(plain_xs(boxes, 20, 10, 5), [10, 5, 5, 5])
        self.assertEqual(plain_xs(boxes, 25, 5, 15), [5, 15, 15, 15])
        self.assertEqual(plain_xs(boxes, 20, 0, 0), [0, 10, 0, 10])
        self.assertEqual(plain_xs([box(10)], 0, MOST, 3), [MOST])
        self.assertEqual(plain_xs([box(1), box(1)], 1, 0, MOST), [0, 1])

    def test_rooms_below_0(self):
        boxes = [box(5, space=6, shrink=6, cost=0), box(5)]
        self.assertEqual(plain_xs(boxes, 3, 8, 0), [8, 0])
        self.assertEqual(plain_xs(boxes, 0, 8, 9), [8, 19])
        self.assertEqual(even_xs(boxes, 0, 8, 9), [8, 13])


class Stretched(unittest.TestCase):
    # The first line of each row holds all items but the last, which is too wide to be with them.
    def line(self, stretches, space=2):
        inside = [box(10, space=space, stretch=stretch, cost=-1) for stretch in stretches]
        return inside + [box(10, space=7, stretch=99, cost=0), box(1000000, cost=0)]

    def xs(self, stretches, slack, space=2):
        count = len(stretches)
        natural = 10 * (count + 1) + space * count
        found = even_xs(self.line(stretches, space), natural + slack)
        self.assertEqual(found.pop(), 0)
        plain = [k * (10 + space) for k in range(count + 1)]
        return [x - before for x, before in zip(found, plain)]

    def test_one_space(self):
        for slack in (0, 1, 7):
            self.assertEqual(self.xs([3], slack), [0, slack])

    def test_by_their_stretches(self):
        self.assertEqual(self.xs([1, 2, 3], 6), [0, 1, 3, 6])
        self.assertEqual(self.xs([1, 2, 3], 60), [0, 10, 30, 60])
        self.assertEqual(self.xs([0, 4, 0], 8), [0, 0, 8, 8])

    def test_rounded_down(self):
        self.assertEqual(self.xs([1, 1, 1], 1), [0, 0, 0, 1])
        self.assertEqual(self.xs([1, 1, 1], 2), [0, 0, 1, 2])
        self.assertEqual(self.xs([1, 1, 1], 5), [0, 1, 3, 5])
        self.assertEqual(self.xs([5, 3, 3], 7), [0, 3, 5, 7])

    def test_rounded_for_the_first_spaces_together(self):
        # Each for itself would come to 0, rounded down.
        self.assertEqual(self.xs([1, 1, 1, 1], 3), [0, 0, 1, 2, 3])

    def test_no_stretch(self):
        for slack in (0, 1, 7):
            self.assertEqual(self.xs([0, 0], slack), [0, 0, 0])
            self.assertEqual(self.xs([], slack), [0])

    def test_stretch_behind_the_line_does_not_count(self):
        # The 99 of the line's last item takes nothing.
        self.assertEqual(self.xs([1], 4), [0, 4])

    def test_slack_0(self):
        self.assertEqual(self.xs([1, 2, 3], 0), [0, 0, 0, 0])

    def test_not_the_last_line(self):
        boxes = [box(10, space=2, stretch=5), box(10, space=2, stretch=5), box(10)]
        self.assertEqual(even_xs(boxes, 40), [0, 12, 24])
        self.assertEqual(even_xs(boxes, 34), [0, 12, 24])
        self.assertEqual(even_xs(boxes, 23), [0, 13, 0])
        # The last one of two lines.
        boxes = [box(10, space=2, stretch=5), box(10, cost=0), box(5, space=2, stretch=5, cost=-1), box(5)]
        self.assertEqual(even_xs(boxes, 24), [0, 14, 0, 7])

    def test_behind_an_indent(self):
        boxes = [box(30, cost=0), box(10, space=2, stretch=1, cost=-1), box(10, cost=0), box(30)]
        self.assertEqual(even_xs(boxes, 30, 0, 5), [0, 5, 20, 5])
        boxes = [box(10, space=2, stretch=1, cost=-1), box(10, cost=0), box(30)]
        self.assertEqual(even_xs(boxes, 30, 5, 0), [5, 20, 0])

    def test_great_numbers(self):
        boxes = [box(1, 1, 0, -1, 1000000), box(1, 1, 0, -1, 999999), box(1, 0, 0, 0)] + [box(1000000)] * 200
        found = even_xs(boxes, 1000002)
        put_to_both = 1000002 - 5
        self.assertEqual(found[:3], [0, 2 + put_to_both * 1000000 // 1999999, 4 + put_to_both])


class Shrunk(unittest.TestCase):
    def xs(self, shrinks, slack, is_last, space=10):
        """How far the items of a line that is too long are moved to the left."""
        count = len(shrinks)
        boxes = [box(10, space=space, shrink=shrink, cost=-1, stretch=k) for k, shrink in enumerate(shrinks)]
        boxes.append(box(10, space=99, shrink=99, cost=0))
        if not is_last:
            boxes.append(box(1000000))
        natural = 10 * (count + 1) + space * count
        found = even_xs(boxes, natural + slack)
        if not is_last:
            self.assertEqual(found.pop(), 0)
        return [k * (10 + space) - x for k, x in enumerate(found)]

    def both(self, shrinks, slack):
        """The same for the last line and for one that isn't."""
        found = self.xs(shrinks, slack, True)
        self.assertEqual(self.xs(shrinks, slack, False), found)
        return found

    def test_one_space(self):
        self.assertEqual(self.both([5], -3), [0, 3])
        self.assertEqual(self.both([5], -5), [0, 5])

    def test_at_most_the_shrink(self):
        self.assertEqual(self.both([5], -6), [0, 5])
        self.assertEqual(self.both([2, 3], -19), [0, 2, 5])
        self.assertEqual(self.both([10, 10], -30), [0, 10, 20])

    def test_by_their_shrinks(self):
        self.assertEqual(self.both([2, 4, 6], -6), [0, 1, 3, 6])
        self.assertEqual(self.both([0, 4, 0], -3), [0, 0, 3, 3])

    def test_rounded_down(self):
        self.assertEqual(self.both([1, 1, 1], -1), [0, 0, 0, 1])
        self.assertEqual(self.both([1, 1, 1], -2), [0, 0, 1, 2])
        self.assertEqual(self.both([5, 3, 3], -7), [0, 3, 5, 7])

    def test_no_shrink(self):
        self.assertEqual(self.both([0, 0], -7), [0, 0, 0])
        self.assertEqual(self.both([], -7), [0])

    def test_slack_0(self):
        self.assertEqual(self.both([5, 5], 0), [0, 0, 0])

    def test_slack_above_0_does_not_shrink(self):
        boxes = [box(10, space=9, shrink=9, cost=-1), box(10, cost=0), box(1000000)]
        self.assertEqual(even_xs(boxes, 35), [0, 19, 0])

    def test_room_below_0(self):
        boxes = [box(10, space=9, shrink=9, cost=-1), box(10)]
        self.assertEqual(even_xs(boxes, 0, 5, 0), [5, 15])
        self.assertEqual(even_xs([box(0, 5, 3, -1), box(0)], 0, 1, 0), [1, 3])

    def test_not_even(self):
        boxes = [box(10, space=9, shrink=9, cost=-1), box(10)]
        self.assertEqual(plain_xs(boxes, 22), [0, 19])
        self.assertEqual(even_xs(boxes, 22), [0, 12])

    def test_great_numbers(self):
        boxes = [box(0, 1000000, 1000000, -1)] * 299 + [box(0)]
        found = even_xs(boxes, MOST)
        taken = 299000000 - MOST
        self.assertEqual(found, [k * 1000000 - taken * k // 299 for k in range(300)])
        self.assertEqual(even_xs(boxes, 0, MOST, 0), [MOST] * 300)


class Baselines(unittest.TestCase):
    def test_one_line(self):
        boxes = [box(1, height=4, depth=9, cost=-1), box(1, height=6, depth=2)]
        self.assertEqual(ys(boxes, 5, MOST_LEAD, MOST_LEAD), [-6, -6])

    def test_first_height_below_0(self):
        self.assertEqual(ys([box(1, height=-4, depth=9, cost=-1), box(1, height=-6)], 5, 100), [4, 4])

    def test_lead_and_what_the_lines_need(self):
        boxes = [box(10, height=7, depth=2), box(10, height=8, depth=3)]
        for lead, gap, drop in ((0, 0, 10), (9, 0, 10), (10, 0, 10), (11, 0, 11), (11, 1, 11), (11, 2, 12),
                                (0, MOST_LEAD, MOST_LEAD + 10), (MOST_LEAD, 0, MOST_LEAD),
                                (MOST_LEAD, MOST_LEAD, MOST_LEAD + 10)):
            self.assertEqual(ys(boxes, 10, lead, gap), [-7, -7 - drop])

    def test_heights_and_depths_below_0(self):
        boxes = [box(10, height=-7, depth=-2), box(10, height=-8, depth=-3), box(10, height=9, depth=4)]
        self.assertEqual(ys(boxes, 10), [7, 7, 1])
        self.assertEqual(ys(boxes, 10, 0, 12), [7, 5, -13])
        self.assertEqual(ys(boxes, 10, 3, 0), [7, 4, -2])

    def test_never_higher_than_the_line_before(self):
        boxes = [box(10, height=-1000000, depth=-1000000)] * 3
        self.assertEqual(ys(boxes, 10), [1000000, 1000000, 1000000])
        self.assertEqual(ys(boxes, 10, 1, MOST_LEAD), [1000000, 999999, 999998])

    def test_depth_of_the_line_before_and_height_of_the_line(self):
        boxes = [box(10, height=100, depth=1), box(10, height=20, depth=300), box(10, height=4, depth=1000)]
        self.assertEqual(ys(boxes, 10), [-100, -121, -425])

    def test_of_all_items_of_a_line(self):
        boxes = [box(5, height=1, depth=9, cost=-1), box(5, height=3, depth=2, cost=0),
                 box(5, height=1, depth=7, cost=-1), box(5, height=6, depth=1)]
        self.assertEqual(ys(boxes, 10, 0, 1), [-3, -3, -19, -19])

    def test_the_same_set_even(self):
        boxes = cut(EXAMPLE)
        for measure in (0, 8, 22, 25, 100):
            self.assertEqual([y for x, y in placed(boxes, measure, 0, 3, 1, 4, 5)],
                             [y for x, y in placed(boxes, measure, 0, 3, 0, 4, 5)])

    def test_three_hundred_lines(self):
        boxes = [box(1, height=1000000, depth=1000000)] * 300
        found = placed(boxes, 1, 0, 0, 1, MOST_LEAD, MOST_LEAD)
        self.assertEqual(found, [(0, -1000000 - 3000000 * k) for k in range(300)])


class Box(unittest.TestCase):
    def test_empty_row(self):
        self.assertEqual(answers([11, 0, 0, 0, 0, 0]), [4, 0, 0, 0, 0])
        self.assertEqual(boxed([], 0, MOST, MOST, MOST_LEAD, MOST_LEAD), [0, 0, 0])
        self.assertEqual(run(add(box(3, height=2, depth=1)), take(0), outer(5)), [[0], [0], [0, 0, 0, 0]])

    def test_one_item(self):
        self.assertEqual(boxed([box(10, 5, 5, -1, 5, 3, 2)], 4, 7, 9, 50, 50), [17, -3, 2])
        self.assertEqual(boxed([box(10, 5, 5, -1, 5, -3, -2)], 40), [10, 3, -2])

    def test_right_edges_that_are_all_0(self):
        for count in (1, 2, 300):
            self.assertEqual(boxed([box(0, height=2, depth=3)] * count, 0), [0, -2, 3])
            # The space behind the last item of a line is not reached by any item.
            self.assertEqual(boxed([box(0, space=5, height=2, depth=3, cost=0)] + [box(0)] * (count - 1), 0)[0], 0)

    def test_the_widest_line(self):
        boxes = [box(5), box(9), box(7)]
        self.assertEqual(boxed(boxes, 9)[0], 9)
        self.assertEqual(boxed([box(9), box(5), box(7)], 9)[0], 9)
        self.assertEqual(boxed([box(7), box(5), box(9)], 9)[0], 9)
        self.assertEqual(boxed([box(5), box(9), box(0)], 9)[0], 9)

    def test_indents_count(self):
        self.assertEqual(boxed([box(9), box(5)], 12, 1, 6)[0], 11)
        self.assertEqual(boxed([box(9), box(5)], 12, 3, 6)[0], 12)
        self.assertEqual(boxed([box(0)], 0, MOST, 0), [MOST, 0, 0])
        # The indent of further lines counts only if there are any.
        self.assertEqual(boxed([box(9)], 12, 0, 6)[0], 9)

    def test_not_set_even(self):
        boxes = [box(10, space=3, stretch=1, cost=-1), box(10, cost=0), box(9, space=8, shrink=8, cost=-1), box(9)]
        # Set even, the first line would reach to 25, and the second one to 25 as well.
        self.assertEqual(boxed(boxes, 25)[0], 26)
        self.assertEqual(boxed(boxes[:2] + [box(20)], 25)[0], 23)

    def test_overfull(self):
        self.assertEqual(boxed([box(10, space=3, shrink=1, cost=-1), box(10)], 0)[0], 23)

    def test_the_last_baseline_and_depth(self):
        boxes = [box(10, height=7, depth=20), box(10, height=8, depth=3, cost=-1), box(0, height=1, depth=5)]
        self.assertEqual(boxed(boxes, 10), [10, -35, 5])
        self.assertEqual(boxed(boxes, 10, 0, 0, 0, 4), [10, -39, 5])
        self.assertEqual(boxed(boxes, 10, 0, 0, 40, 4), [10, -47, 5])

    def test_below_0(self):
        boxes = [box(10, height=-7, depth=-2), box(10, height=-8, depth=-3)]
        self.assertEqual(boxed(boxes, 10), [10, 7, -3])
        self.assertEqual(boxed(boxes, 20), [20, 7, -2])

    def test_three_hundred_items(self):
        boxes = [box(1000000, 1000000, 0, -1, 0, 1000000, 1000000)] * 300
        self.assertEqual(boxed(boxes, 0, MOST, 0, MOST_LEAD, MOST_LEAD), [599000000 + MOST, -1000000, 1000000])
        boxes = [box(1000000, 0, 0, 0, 0, 1000000, 1000000)] * 300
        self.assertEqual(boxed(boxes, 1000000, 0, 0, MOST_LEAD, MOST_LEAD),
                         [1000000, -1000000 - 299 * 3000000, 1000000])

    def test_follows_the_row(self):
        told = run(add(box(10)), outer(10), places(10), put(1, box(9, height=2)), outer(10), places(10),
                   change(0, box(8, height=1)), outer(10), places(10), take(0), outer(10), places(10))
        self.assertEqual(told, [[0], [0, 10, 0, 0], [0, 0, 0], [0], [0, 10, -2, 0], [0, 0, 0, 0, -2],
                                [0], [0, 9, -3, 0], [0, 0, -1, 0, -3], [0], [0, 9, -2, 0], [0, 0, -2]])


class Ranges(unittest.TestCase):
    def test_places(self):
        mosts = [MOST, MOST, MOST, 1, MOST_LEAD, MOST_LEAD]
        for even in (0, 1):
            wholes = [14, 1, 1, even, 5, 5]
            for told, expected in range_runs(places, lambda *given: flat(plain_places(*given)), wholes, mosts):
                self.assertEqual(told, expected)

    def test_box(self):
        mosts = [MOST, MOST, MOST, MOST_LEAD, MOST_LEAD]
        for told, expected in range_runs(outer, plain_box, [14, 1, 1, 5, 5], mosts):
            self.assertEqual(told, expected)

    def test_even(self):
        for even, told in ((0, [0, 0, 0]), (1, [0, 0, 0]), (2, [-4]), (-1, [-4]), (FAR, [-4]), (-FAR, [-4])):
            self.assertEqual(run(add(box(1)), places(5, 0, 0, even))[1], told)

    def test_several_out_of_range(self):
        self.assertEqual(run(places(-1, -1, -1, 2, -1, -1), outer(-1, -1, -1, -1, -1), places(FAR, 0, 0, 2, 0, 0)),
                         [[-4], [-4], [-4]])


class ManyRows(unittest.TestCase):
    def compare(self, boxes, triple, lead, gap):
        told = run(add(*boxes), places(*triple, 0, lead, gap), places(*triple, 1, lead, gap),
                   outer(*triple, lead, gap))
        self.assertEqual(told[1], [0] + flat(plain_places(boxes, *triple, 0, lead, gap)), (boxes, triple, lead, gap))
        self.assertEqual(told[2], [0] + flat(plain_places(boxes, *triple, 1, lead, gap)), (boxes, triple, lead, gap))
        self.assertEqual(told[3], [0] + plain_box(boxes, *triple, lead, gap), (boxes, triple, lead, gap))

    def test_small_rows(self):
        dice = random.Random(51)
        for turn in range(1200):
            self.compare(small_row(dice), small_measure(dice), dice.randint(0, 20), dice.randint(0, 9))

    def test_rows_with_many_spaces_to_change(self):
        dice = random.Random(52)
        for turn in range(600):
            boxes = []
            for k in range(dice.randint(3, 9)):
                space = dice.randint(0, 9)
                boxes.append(box(dice.randint(1, 9), space, dice.randint(0, space), dice.choice((-1, -1, 0, 50)),
                                 dice.randint(0, 9), dice.randint(-3, 9), dice.randint(-3, 9)))
            triple = (dice.randint(5, 60), dice.randint(0, 9), dice.randint(0, 9))
            self.compare(boxes, triple, dice.randint(0, 20), dice.randint(0, 9))

    def test_wide_rows(self):
        dice = random.Random(53)
        for turn in range(300):
            leads = (0, MOST_LEAD, dice.randint(0, MOST_LEAD))
            self.compare(wide_row(dice), wide_measure(dice), dice.choice(leads), dice.choice(leads))

    def test_all_kinds_of_lines_are_among_them(self):
        dice = random.Random(54)
        kinds = {}
        for turn in range(300):
            boxes = small_row(dice)
            if len(boxes) > 1:
                end = dice.randint(1, len(boxes) - 1)
                line = plain_line(boxes, 0, end, 0, dice.randint(0, 40))
                key = ((line["slack"] > 0) - (line["slack"] < 0), line["last"], even_spaces(line) != line["spaces"])
                kinds[key] = True
        for key in ((1, False, True), (1, False, False), (1, True, False), (0, False, False), (0, True, False),
                    (-1, False, True), (-1, False, False), (-1, True, True), (-1, True, False)):
            self.assertIn(key, kinds)
        for key in ((1, True, True), (0, False, True), (0, True, True)):
            self.assertNotIn(key, kinds)


if __name__ == "__main__":
    unittest.main()
