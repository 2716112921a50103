import itertools
import unittest

from hookrail.counts import crossed, lacks
from hookrail.rails import gaps
from samples import FAR, seventy_boxes, small_errands


class Crossed(unittest.TestCase):
    """Promise 7."""

    def test_either_way(self):
        boxes = [(1, 5), (-7, 2), (5, 1), (9, -9), (2, 3)]
        self.assertEqual(crossed(boxes, (2, 3)), (2, 2))
        self.assertEqual(crossed(boxes, (-7, 1)), (1, 1))
        self.assertEqual(crossed(boxes, (3, 5)), (1, 2))

    def test_no_boxes(self):
        self.assertEqual(crossed([], (0, 1)), (0, 0))

    def test_boxes_alike_and_there_and_back(self):
        self.assertEqual(crossed([(0, 4), (0, 4), (4, 0)], (0, 4)), (2, 1))

    def test_a_box_that_stays_crosses_nothing(self):
        for place in range(-1, 6):
            self.assertEqual(crossed([(place, place)], (0, 4)), (0, 0), place)

    def test_just_at_a_side_of_the_gap(self):
        self.assertEqual(crossed([(0, 4)], (0, 4)), (1, 0))
        self.assertEqual(crossed([(4, 0)], (0, 4)), (0, 1))
        self.assertEqual(crossed([(0, 9)], (0, 4)), (1, 0))
        self.assertEqual(crossed([(-9, 4)], (0, 4)), (1, 0))
        self.assertEqual(crossed([(9, 0)], (0, 4)), (0, 1))
        self.assertEqual(crossed([(4, -9)], (0, 4)), (0, 1))

    def test_beside_the_gap(self):
        for box in [(-3, 0), (0, -3), (4, 7), (7, 4), (-5, -2), (6, 8)]:
            self.assertEqual(crossed([box], (0, 4)), (0, 0), box)

    def test_a_part_of_a_stretch_is_no_crossing(self):
        for box in [(0, 3), (3, 0), (1, 4), (4, 1), (1, 3), (3, 1), (-9, 3), (3, -9), (1, 9), (9, 1)]:
            self.assertEqual(crossed([box], (0, 4)), (0, 0), box)

    def test_every_box_and_stretch_step_by_step(self):
        places = range(-3, 4)
        for start, goal, left, right in itertools.product(places, repeat=4):
            if left < right:
                stretch = set(range(left, right))
                wanted = (int(stretch <= set(range(start, goal))), int(stretch <= set(range(goal, start))))
                self.assertEqual(crossed([(start, goal)], (left, right)), wanted, (start, goal, left, right))

    def test_each_box_counts_by_itself(self):
        boxes = list(itertools.product(range(-2, 3), repeat=2))
        for left, right in itertools.combinations(range(-3, 4), 2):
            each = [crossed([box], (left, right)) for box in boxes]
            wanted = (sum(one[0] for one in each), sum(one[1] for one in each))
            self.assertEqual(crossed(boxes, (left, right)), wanted, (left, right))

    def test_farthest_places(self):
        boxes = [(-FAR, FAR), (FAR, -FAR), (FAR, 1 - FAR)]
        self.assertEqual(crossed(boxes, (-FAR, FAR)), (1, 1))
        self.assertEqual(crossed(boxes, (1 - FAR, FAR)), (1, 2))
        self.assertEqual(crossed(boxes, (FAR - 1, FAR)), (1, 2))
        self.assertEqual(crossed(boxes, (-FAR, 1 - FAR)), (1, 1))

    def test_long_lists(self):
        self.assertEqual(crossed([(0, 5)] * 70, (1, 2)), (70, 0))
        self.assertEqual(crossed([(0, 5), (5, 0)] * 1000, (1, 2)), (1000, 1000))

    def test_kinds_and_what_is_handed_in(self):
        boxes = [(1, 5), (5, 1), (1, 5)]
        told = crossed(boxes, (2, 3))
        self.assertIsInstance(told, tuple)
        self.assertTrue(all(isinstance(one, int) and not isinstance(one, bool) for one in told))
        self.assertEqual(boxes, [(1, 5), (5, 1), (1, 5)])


def net(start, goal, left):
    """How often more a way crosses from left on to the right, where no stop lies within the gap."""
    return (start <= left) - (goal <= left)


class Lacks(unittest.TestCase):
    """Promise 8."""

    def test_home_left_of_last(self):
        self.assertEqual(lacks(0, 9, []), [1])
        self.assertEqual(lacks(0, 9, [(3, 5)]), [1, 0, 1])
        self.assertEqual(lacks(0, 9, [(5, 3)]), [1, 2, 1])

    def test_home_right_of_last(self):
        self.assertEqual(lacks(9, 0, []), [-1])
        self.assertEqual(lacks(9, 0, [(3, 5)]), [-1, -2, -1])
        self.assertEqual(lacks(9, 0, [(5, 3)]), [-1, 0, -1])

    def test_home_and_last_the_same(self):
        self.assertEqual(lacks(4, 4, []), [])
        self.assertEqual(lacks(4, 4, [(4, 4)]), [])
        self.assertEqual(lacks(4, 4, [(2, 7)]), [-1, -1])
        self.assertEqual(lacks(4, 4, [(7, 2)]), [1, 1])
        self.assertEqual(lacks(0, 0, [(6, 6)]), [0])

    def test_gaps_beside_home_and_last(self):
        self.assertEqual(lacks(0, 2, [(-5, -5), (8, 8)]), [0, 1, 0])
        self.assertEqual(lacks(2, 0, [(-5, -5), (8, 8)]), [0, -1, 0])

    def test_boxes_alike_and_there_and_back(self):
        self.assertEqual(lacks(0, 0, [(0, 4), (0, 4), (0, 4)]), [-3])
        self.assertEqual(lacks(0, 4, [(4, 0), (4, 0)]), [3])
        self.assertEqual(lacks(0, 0, [(0, 4), (4, 0)]), [0])

    def test_an_ordinary_errand(self):
        # gaps (-9, -7), (-7, 1), (1, 2), (2, 3), (3, 5)
        self.assertEqual(lacks(3, -9, [(1, 5), (-7, 2)]), [-1, -2, -3, -2, -1])

    def check_against_nets(self, home, last, boxes):
        wanted = []
        for left, right in gaps(home, last, boxes):
            wanted.append(net(home, last, left) - sum(net(start, goal, left) for start, goal in boxes))
        self.assertEqual(lacks(home, last, boxes), wanted, (home, last, boxes))

    def test_every_small_one(self):
        for errand in small_errands():
            self.check_against_nets(*errand)

    def test_farthest_places(self):
        self.assertEqual(lacks(-FAR, FAR, [(FAR, 1 - FAR)]), [1, 2])
        self.assertEqual(lacks(FAR, -FAR, [(FAR - 1, FAR)]), [-1, -2])

    def test_seventy_boxes(self):
        boxes = seventy_boxes()
        for home, last in [(0, 0), (-FAR, FAR), (FAR, -FAR), (12, -7)]:
            self.check_against_nets(home, last, boxes)
        self.assertEqual(lacks(0, 1, [(0, 1)] * 70), [-69])
        self.assertEqual(lacks(1, 0, [(0, 1)] * 70), [-71])

    def test_kinds(self):
        for home, last, boxes in [(0, 9, [(3, 5)]), (9, 0, []), (4, 4, [(2, 7)])]:
            told = lacks(home, last, boxes)
            self.assertIsInstance(told, list)
            self.assertTrue(all(isinstance(one, int) and not isinstance(one, bool) for one in told))


if __name__ == "__main__":
    unittest.main()
