import copy
import itertools
import unittest

from hookrail import errors
from hookrail.yards import is_yard, passes, yard_least
from oracles import yard_least_by_search
from samples import (
    FAR, NO_BOXES, NO_LISTS, NO_PLACES, check_own_lists, check_refused, far_yards, is_whole, mixed_yards, small_yards,
    three_box_yards, wrong_yards,
)


def yards():
    yield from small_yards()
    for reach in (4, 30, 10 ** 12, FAR):
        yield from mixed_yards(reach + 6, 100, 9, reach)
    yield from far_yards()


def passes_by_words(gate, boxes):
    """The passes of promise 21, by what lies left of each gap and what does not."""
    places = sorted({gate} | {place for box in boxes for place in box if box[0] != box[1]})
    told = []
    for left, right in itertools.pairwise(places):
        rights = sum(start <= left < goal for start, goal in boxes)
        lefts = sum(goal <= left < start for start, goal in boxes)
        told.append((left, right, rights if rights > lefts else lefts or 1))
    return told


class IsYard(unittest.TestCase):
    """Promise 20."""

    def test_yards(self):
        for gate, boxes in [
            (0, []), (-7, []), (FAR, []), (-FAR, []), (0, [(0, 0)]), (0, [(0, 5), (5, 0)]), (3, [(4, 9), (9, 4)]),
            (-5, [(-5, -3), (0, 2), (0, 2)]), (-FAR, [(FAR, -FAR)]), (FAR, [(FAR, FAR)]),
        ]:
            with self.subTest(gate=gate, boxes=boxes):
                self.assertIs(is_yard(gate, boxes), True)

    def test_all_yards_of_the_samples(self):
        for gate, boxes in yards():
            self.assertIs(is_yard(gate, boxes), True)

    def test_a_place_left_of_the_gate(self):
        for gate in (-9, 0, 4, FAR):
            left = gate - 1
            for box in [(left, gate), (gate, left), (left, left), (gate + 5, left), (-2 * FAR, gate)]:
                self.assertIs(is_yard(gate, [box]), False)
                self.assertIs(is_yard(gate, [(gate, gate + 1), box]), False)
                self.assertIs(is_yard(gate, [box, (gate, gate + 1)]), False)
            self.assertIs(is_yard(gate, [(gate, gate), (gate, gate + 1), (gate + 1, gate)]), True)

    def test_the_gate_is_no_place(self):
        for thing in NO_PLACES:
            self.assertIs(is_yard(thing, []), False, thing)
            self.assertIs(is_yard(thing, [(5, 9)]), False, thing)

    def test_boxes_that_are_no_list(self):
        for thing in NO_LISTS:
            self.assertIs(is_yard(0, thing), False, thing)
            self.assertIs(is_yard(-FAR, thing), False, thing)

    def test_a_box_that_is_none(self):
        for thing in NO_BOXES:
            self.assertIs(is_yard(0, [thing]), False, thing)
            self.assertIs(is_yard(0, [(1, 2), thing]), False, thing)
            self.assertIs(is_yard(-FAR, [thing, (1, 2)]), False, thing)

    def test_wrong_ones(self):
        for yard in wrong_yards():
            before = copy.deepcopy(yard)
            self.assertIs(is_yard(*yard), False, yard)
            self.assertEqual(repr(yard), repr(before))


class Passes(unittest.TestCase):
    """Promise 21."""

    def test_the_gate_alone(self):
        self.assertEqual(passes(4, []), [])
        self.assertEqual(passes(4, [(4, 4)]), [])
        self.assertEqual(passes(4, [(9, 9), (6, 6)]), [])
        self.assertEqual(passes(-FAR, [(FAR, FAR)] * 70), [])

    def test_boxes_that_stay_are_not_counted_among_the_places(self):
        self.assertEqual(passes(0, [(2, 8), (5, 5), (11, 11)]), [(0, 2, 1), (2, 8, 1)])
        self.assertEqual(passes(0, [(2, 8), (5, 5), (5, 6)]), [(0, 2, 1), (2, 5, 1), (5, 6, 2), (6, 8, 1)])

    def test_the_greater_of_both_ways(self):
        self.assertEqual(passes(0, [(0, 3), (0, 3), (3, 0)]), [(0, 3, 2)])
        self.assertEqual(passes(0, [(3, 0), (3, 0), (0, 3)]), [(0, 3, 2)])
        self.assertEqual(passes(0, [(3, 0), (0, 3)]), [(0, 3, 1)])
        self.assertEqual(passes(0, [(0, 5)] * 70), [(0, 5, 70)])
        self.assertEqual(passes(0, [(5, 0)] * 70), [(0, 5, 70)])

    def test_once_where_no_box_crosses(self):
        self.assertEqual(passes(0, [(7, 9)]), [(0, 7, 1), (7, 9, 1)])
        self.assertEqual(passes(-3, [(7, 9), (0, 1)]), [(-3, 0, 1), (0, 1, 1), (1, 7, 1), (7, 9, 1)])

    def test_boxes_over_several_gaps(self):
        boxes = [(1, 5), (7, 2), (2, 9), (2, 9)]
        self.assertEqual(passes(1, boxes), [(1, 2, 1), (2, 5, 3), (5, 7, 2), (7, 9, 2)])

    def test_by_the_words(self):
        for gate, boxes in yards():
            handed = list(boxes)
            told = passes(gate, boxes)
            self.assertEqual(told, passes_by_words(gate, boxes), (gate, boxes))
            self.assertEqual(boxes, handed)

    def test_kinds(self):
        told = passes(0, [(1, 5), (7, 2)])
        self.assertIsInstance(told, list)
        for one in told:
            self.assertIsInstance(one, tuple)
            self.assertEqual(len(one), 3)
            self.assertTrue(all(is_whole(part) for part in one))

    def test_what_is_no_yard(self):
        for yard in wrong_yards():
            with self.subTest(yard=yard):
                before = copy.deepcopy(yard)
                check_refused(self, errors.NoYard, passes, *yard)
                self.assertEqual(repr(yard), repr(before))

    def test_each_list_is_new(self):
        for gate, boxes in [(0, []), (0, [(1, 5), (7, 2)]), (4, [(4, 4)])]:
            told = passes(gate, boxes)
            kept = list(told)
            check_own_lists(self, [told, passes(gate, boxes)], boxes)
            passes(gate, boxes).append(None)
            boxes.append((20, 30))
            passes(gate, boxes)
            self.assertEqual(told, kept)


class YardLeast(unittest.TestCase):
    """Promise 21."""

    def test_nothing_to_do(self):
        self.assertEqual(yard_least(4, []), 0)
        self.assertEqual(yard_least(4, [(4, 4)]), 0)
        self.assertEqual(yard_least(4, [(9, 9), (FAR, FAR)]), 0)

    def test_the_sum(self):
        self.assertEqual(yard_least(0, [(7, 9)]), 18)
        self.assertEqual(yard_least(0, [(3, 0), (3, 0), (0, 3)]), 12)
        self.assertEqual(yard_least(1, [(1, 5), (7, 2), (2, 9), (2, 9)]), 2 * (1 + 3 * 3 + 2 * 2 + 2 * 2))
        self.assertEqual(yard_least(-FAR, [(-FAR, FAR)] * 70), 280 * FAR)
        self.assertEqual(yard_least(-FAR, [(FAR - 1, FAR)]), 4 * FAR)

    def test_the_sum_of_many(self):
        for gate, boxes in yards():
            handed = list(boxes)
            told = yard_least(gate, boxes)
            self.assertTrue(is_whole(told))
            wanted = 0
            for left, right, times in passes_by_words(gate, boxes):
                wanted += (right - left) * times + (right - left) * times
            self.assertEqual(told, wanted, (gate, boxes))
            self.assertEqual(boxes, handed)

    def test_no_tour_is_shorter(self):
        for gate, boxes in itertools.islice(small_yards(), 0, None, 4):
            self.assertEqual(yard_least(gate, boxes), yard_least_by_search(gate, boxes, [gate - 1, 3]), (gate, boxes))
        for gate, boxes in three_box_yards(21, 100):
            self.assertEqual(yard_least(gate, boxes), yard_least_by_search(gate, boxes, []), (gate, boxes))

    def test_what_is_no_yard(self):
        for yard in wrong_yards():
            with self.subTest(yard=yard):
                before = copy.deepcopy(yard)
                check_refused(self, errors.NoYard, yard_least, *yard)
                self.assertEqual(repr(yard), repr(before))


if __name__ == "__main__":
    unittest.main()
