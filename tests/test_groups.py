import copy
import itertools
import random
import unittest

from hookrail import errors
from hookrail.counts import lacks
from hookrail.groups import groups, knots
from hookrail.rails import gaps
from samples import (
    FAR, check_own_lists, check_refused, far_errands, is_whole, mixed_errands, small_errands, wrong_errands,
)


def groups_by_spreading(things, ties):
    """The groups by another way: each thing takes the least mark that it meets, until nothing changes."""
    mark = {thing: thing for thing in things}
    changed = True
    while changed:
        changed = False
        for one, other in ties:
            least = min(mark[one], mark[other])
            if mark[one] != least or mark[other] != least:
                mark[one] = mark[other] = least
                changed = True
    return [sorted(thing for thing in things if mark[thing] == head) for head in sorted(set(mark.values()))]


class Groups(unittest.TestCase):
    """Promise 9."""

    def test_no_things(self):
        self.assertEqual(groups([], []), [])

    def test_things_without_ties(self):
        self.assertEqual(groups([4], []), [[4]])
        self.assertEqual(groups([4, -2, 9, 0], []), [[-2], [0], [4], [9]])

    def test_a_thing_tied_to_itself(self):
        self.assertEqual(groups([4], [(4, 4)]), [[4]])
        self.assertEqual(groups([4, 2], [(4, 4), (2, 2), (4, 4)]), [[2], [4]])
        self.assertEqual(groups([4, 2, 3], [(4, 4), (4, 2)]), [[2, 4], [3]])

    def test_ties_told_twice_and_the_other_way_round(self):
        self.assertEqual(groups([1, 2, 3], [(1, 2), (1, 2)]), [[1, 2], [3]])
        self.assertEqual(groups([1, 2, 3], [(1, 2), (2, 1)]), [[1, 2], [3]])

    def test_ties_are_gone_along_either_way(self):
        self.assertEqual(groups([1, 2, 3], [(1, 2), (3, 2)]), [[1, 2, 3]])
        self.assertEqual(groups([1, 2, 3], [(2, 1), (2, 3)]), [[1, 2, 3]])
        self.assertEqual(groups([1, 2, 3], [(3, 1)]), [[1, 3], [2]])

    def test_rounds(self):
        self.assertEqual(groups([1, 2, 3, 4], [(1, 2), (2, 3), (3, 1)]), [[1, 2, 3], [4]])

    def test_the_order_of_groups_is_by_their_least_things(self):
        self.assertEqual(groups([5, 1, 9, 3, 7], [(9, 1), (3, 5)]), [[1, 9], [3, 5], [7]])
        self.assertEqual(groups([10, 9, -1, -10, 100], [(100, -10), (10, -1)]), [[-10, 100], [-1, 10], [9]])
        # Neither by how many they are nor by their greatest.
        self.assertEqual(groups([1, 2, 3, 4, 5, 6], [(3, 2), (2, 4), (1, 6)]), [[1, 6], [2, 3, 4], [5]])

    def test_in_whatever_order_things_and_ties_stand(self):
        ties = [(-3, 8), (8, 2), (0, 0), (5, -1)]
        wanted = [[-3, 2, 8], [-1, 5], [0]]
        for things in itertools.permutations([-3, -1, 0, 2, 5, 8]):
            self.assertEqual(groups(list(things), ties), wanted)
        for row in itertools.permutations(ties):
            self.assertEqual(groups([8, 0, -3, 5, -1, 2], list(row)), wanted)

    def test_every_choice_of_few_ties(self):
        things = [2, -1, 7, 0]
        pairs = list(itertools.product(things, things))
        for count in range(4):
            for ties in itertools.product(pairs, repeat=count):
                self.assertEqual(groups(things, list(ties)), groups_by_spreading(things, ties), ties)

    def test_long_chains(self):
        things = list(range(-150, 150))
        chain = list(zip(things, things[1:]))
        chance = random.Random(9)
        for _ in range(20):
            chance.shuffle(chain)
            ties = [tie if chance.random() < 0.5 else (tie[1], tie[0]) for tie in chain]
            self.assertEqual(groups(things, ties), [things])
            self.assertEqual(groups(list(reversed(things)), ties), [things])
        cut = [tie for tie in chain if tie != (0, 1)]
        self.assertEqual(groups(things, cut), [list(range(-150, 1)), list(range(1, 150))])

    def test_three_hundred_things_and_ties(self):
        chance = random.Random(10)
        for count in (0, 50, 140, 300):
            things = chance.sample(range(-FAR, FAR, FAR // 1000), 300)
            ties = [(chance.choice(things), chance.choice(things)) for _ in range(count)]
            self.assertEqual(groups(things, ties), groups_by_spreading(things, ties))

    def test_great_things(self):
        self.assertEqual(groups([FAR, FAR - 1, -FAR], [(FAR, -FAR)]), [[-FAR, FAR], [FAR - 1]])

    def test_nothing_handed_in_is_changed_and_each_list_is_new(self):
        things = [5, 1, 9, 3]
        ties = [(9, 1), (9, 1), (3, 3)]
        before = copy.deepcopy((things, ties))
        told = groups(things, ties)
        self.assertEqual((things, ties), before)
        check_own_lists(self, told, things, ties)
        kept = copy.deepcopy(told)
        again = groups(things, ties)
        check_own_lists(self, [told, again])
        again[0].append(7)
        again.append([])
        things.append(11)
        ties.append((5, 3))
        self.assertEqual(told, kept)
        self.assertEqual(groups(things, ties), [[1, 9], [3, 5], [11]])
        self.assertEqual(groups(before[0], before[1]), kept)

    def test_one_thing_alone_is_not_told_in_the_list_handed_in(self):
        things = [4]
        told = groups(things, [])
        check_own_lists(self, told, things)
        told[0].append(5)
        self.assertEqual(things, [4])


class Knots(unittest.TestCase):
    """Promise 10."""

    def test_without_boxes(self):
        self.assertEqual(knots(4, 4, []), [(4, 4)])
        self.assertEqual(knots(2, 7, []), [(2, 7), (2, 7)])
        self.assertEqual(knots(7, 2, []), [(7, 2), (2, 7)])

    def test_the_boxes_in_their_order_and_those_that_stay(self):
        boxes = [(8, 8), (0, 4), (8, 8), (4, 0), (0, 4)]
        # gaps (0, 4), which lacks -1, and (4, 8), which lacks 0
        self.assertEqual(knots(0, 0, boxes), boxes + [(0, 0)] + [(0, 4)])

    def test_gaps_that_lack_nothing_are_none(self):
        self.assertEqual(knots(0, 0, [(6, 6)]), [(6, 6), (0, 0)])
        self.assertEqual(knots(0, 9, [(3, 5)]), [(3, 5), (0, 9), (0, 3), (5, 9)])
        self.assertEqual(knots(9, 0, [(5, 3)]), [(5, 3), (9, 0), (0, 3), (5, 9)])

    def test_gaps_that_lack_either_way_from_left_to_right(self):
        self.assertEqual(
            knots(3, -9, [(1, 5), (-7, 2)]),
            [(1, 5), (-7, 2), (3, -9), (-9, -7), (-7, 1), (1, 2), (2, 3), (3, 5)],
        )
        # gaps (-2, 0), (0, 3), (3, 6), (6, 8) lack 1, 0, 2, 0
        self.assertEqual(
            knots(0, 0, [(0, -2), (6, 3), (6, 3), (8, 8)]),
            [(0, -2), (6, 3), (6, 3), (8, 8), (0, 0), (-2, 0), (3, 6)],
        )

    def test_many_errands(self):
        for errand in itertools.chain(small_errands(), mixed_errands(10, 200, 6, 12), far_errands()):
            home, last, boxes = errand
            wanted = boxes + [(home, last)]
            wanted += [gap for gap, lack in zip(gaps(*errand), lacks(*errand)) if lack]
            self.assertEqual(knots(*errand), wanted, errand)

    def test_kinds(self):
        told = knots(3, -9, [(1, 5), (-7, 2)])
        self.assertIsInstance(told, list)
        for knot in told:
            self.assertIsInstance(knot, tuple)
            self.assertTrue(is_whole(knot[0]) and is_whole(knot[1]))

    def test_what_is_no_errand(self):
        for errand in wrong_errands():
            with self.subTest(errand=errand):
                before = copy.deepcopy(errand)
                check_refused(self, errors.NoErrand, knots, *errand)
                self.assertEqual(repr(errand), repr(before))

    def test_nothing_handed_in_is_changed_and_each_list_is_new(self):
        boxes = [(9, 1), (4, 4)]
        told = knots(6, -6, boxes)
        kept = list(told)
        self.assertEqual(boxes, [(9, 1), (4, 4)])
        check_own_lists(self, [told, knots(6, -6, boxes)], boxes)
        boxes.append((20, 30))
        knots(6, -6, boxes).append((0, 0))
        self.assertEqual(told, kept)


if __name__ == "__main__":
    unittest.main()
