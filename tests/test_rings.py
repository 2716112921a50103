import copy
import itertools
import unittest

from hookrail import errors
from hookrail.rings import is_ring, ring_gaps, ring_lacks, ring_least, turns
from oracles import (
    ring_edges_by_words, ring_lacks_by_words, ring_least_by_search, ring_stops, ring_weight_by_words, steps_walked,
)
from samples import (
    FAR, NO_LISTS, NO_PLACES, NO_RING_BOXES, apart_rings, check_own_lists, check_refused, far_rings, is_whole,
    mixed_rings, small_rings, wrong_rings,
)


def rings():
    yield from small_rings()
    for size in (4, 7, 30, 10 ** 12, FAR):
        yield from mixed_rings(size + 22, 100, 9, size)
        yield from apart_rings(size + 22, 50, size)
    yield from far_rings()


def steps_over(size, start, goal, way):
    """The places left of each step that a way goes over, one by one."""
    over = []
    while start != goal:
        over.append(start if way == 1 else (start - 1) % size)
        start = (start + way) % size
    return over


class IsRing(unittest.TestCase):
    """Promise 22."""

    def test_rings(self):
        for ring in [
            (1, 0, 0, []), (1, 0, 0, [(0, 0, 1), (0, 0, -1)]), (2, 0, 1, [(1, 0, 1), (1, 0, -1)]),
            (24, 0, 6, [(3, 9, 1), (9, 3, -1)]), (24, 23, 23, [(23, 0, 1), (0, 23, 1), (5, 5, -1)]),
            (FAR, FAR - 1, 0, [(FAR - 1, 0, 1), (0, FAR - 1, -1)]), (FAR, 0, 0, [(7, 7, 1)] * 70),
        ]:
            with self.subTest(ring=ring):
                self.assertIs(is_ring(*ring), True)

    def test_all_rings_of_the_samples(self):
        for ring in rings():
            self.assertIs(is_ring(*ring), True, ring)

    def test_a_size_that_is_none(self):
        for size in NO_PLACES + [0, -1, -2, -FAR]:
            for place in (0, -1, True, False):
                self.assertIs(is_ring(size, place, place, []), False, size)
            self.assertIs(is_ring(size, 0, 0, [(0, 0, 1)]), False, size)

    def test_home_or_last_that_the_ring_has_not(self):
        for size in (1, 2, 24, FAR):
            for place in NO_PLACES + [-1, -size, size, size + 1, 2 * size, -FAR, 2 * FAR]:
                self.assertIs(is_ring(size, place, 0, []), False, place)
                self.assertIs(is_ring(size, 0, place, []), False, place)
            for place in (0, size - 1):
                self.assertIs(is_ring(size, place, 0, []), True)
                self.assertIs(is_ring(size, 0, place, []), True)

    def test_a_box_with_a_place_that_the_ring_has_not(self):
        for size in (1, 2, 24, FAR):
            for place, way in itertools.product(NO_PLACES + [-1, -size, size, size + 1, -FAR, 2 * FAR], (1, -1)):
                for box in [(place, 0, way), (0, place, way), (place, place, way)]:
                    self.assertIs(is_ring(size, 0, 0, [box]), False, box)
            for place, way in itertools.product((0, size - 1), (1, -1)):
                for box in [(place, 0, way), (0, place, way), (place, place, way)]:
                    self.assertIs(is_ring(size, 0, 0, [box]), True, box)

    def test_a_way_that_is_none(self):
        for way in NO_PLACES + [0, 2, -2, 3, FAR, "+", "-", (1,), [1], (-1,), [-1]]:
            self.assertIs(is_ring(24, 0, 6, [(3, 9, way)]), False, way)
            self.assertIs(is_ring(24, 0, 6, [(9, 9, way)]), False, way)

    def test_a_box_that_is_none(self):
        for thing in NO_RING_BOXES:
            self.assertIs(is_ring(5, 0, 4, [thing]), False, thing)
            self.assertIs(is_ring(5, 0, 4, [(1, 2, 1), thing]), False, thing)
            self.assertIs(is_ring(5, 0, 4, [thing, (1, 2, -1)]), False, thing)

    def test_boxes_that_are_no_list(self):
        for thing in NO_LISTS + [((1, 2, 1),), (1, 2, 1)]:
            self.assertIs(is_ring(5, 0, 4, thing), False, thing)

    def test_wrong_ones(self):
        for ring in wrong_rings():
            before = copy.deepcopy(ring)
            self.assertIs(is_ring(*ring), False, ring)
            self.assertEqual(repr(ring), repr(before))


class RingGaps(unittest.TestCase):
    """Promise 22."""

    def test_one_stop_alone(self):
        self.assertEqual(ring_gaps(24, 7, 7, []), [(7, 7)])
        self.assertEqual(ring_gaps(24, 7, 7, [(7, 7, 1), (7, 7, -1)]), [(7, 7)])
        self.assertEqual(ring_gaps(1, 0, 0, []), [(0, 0)])
        self.assertEqual(ring_gaps(1, 0, 0, [(0, 0, -1)]), [(0, 0)])
        self.assertEqual(ring_gaps(FAR, FAR - 1, FAR - 1, []), [(FAR - 1, FAR - 1)])

    def test_two_stops(self):
        self.assertEqual(ring_gaps(24, 7, 3, []), [(3, 7), (7, 3)])
        self.assertEqual(ring_gaps(24, 3, 7, []), [(3, 7), (7, 3)])
        self.assertEqual(ring_gaps(24, 3, 3, [(7, 7, 1)]), [(3, 7), (7, 3)])
        self.assertEqual(ring_gaps(2, 0, 1, []), [(0, 1), (1, 0)])

    def test_from_the_least_stop_on_and_round(self):
        self.assertEqual(ring_gaps(24, 0, 6, [(3, 9, 1), (9, 3, -1)]), [(0, 3), (3, 6), (6, 9), (9, 0)])
        self.assertEqual(ring_gaps(24, 20, 6, [(3, 9, 1), (9, 3, -1)]), [(3, 6), (6, 9), (9, 20), (20, 3)])
        self.assertEqual(ring_gaps(24, 23, 1, [(1, 23, -1)]), [(1, 23), (23, 1)])
        self.assertEqual(ring_gaps(3, 2, 1, [(0, 2, -1)]), [(0, 1), (1, 2), (2, 0)])

    def test_by_the_words(self):
        for size, home, last, boxes in rings():
            handed = list(boxes)
            told = ring_gaps(size, home, last, boxes)
            edges = ring_edges_by_words(size, home, last, boxes)
            self.assertEqual(told, [(left, right) for left, right, long in edges])
            self.assertEqual(sum(long for left, right, long in edges), size)
            self.assertEqual([left for left, right in told], ring_stops(home, last, boxes))
            self.assertEqual(boxes, handed)

    def test_kinds(self):
        for ring in [(24, 0, 6, [(3, 9, 1), (9, 3, -1)]), (24, 7, 7, [])]:
            told = ring_gaps(*ring)
            self.assertIsInstance(told, list)
            for gap in told:
                self.assertIsInstance(gap, tuple)
                self.assertEqual([is_whole(part) for part in gap], [True, True])

    def test_what_is_no_ring(self):
        for ring in wrong_rings():
            with self.subTest(ring=ring):
                before = copy.deepcopy(ring)
                check_refused(self, errors.NoRing, ring_gaps, *ring)
                self.assertEqual(repr(ring), repr(before))


class RingLacks(unittest.TestCase):
    """Promise 24."""

    def test_the_turns_alone(self):
        for c in (-FAR, -3, -1, 0, 1, 2, FAR):
            self.assertEqual(ring_lacks(24, 7, 7, [], c), [c])
            self.assertEqual(ring_lacks(24, 7, 7, [(7, 7, 1), (7, 7, -1)], c), [c])
            self.assertEqual(ring_lacks(1, 0, 0, [(0, 0, 1)], c), [c])
            self.assertEqual(ring_lacks(24, 7, 7, [(9, 9, 1), (2, 2, -1)], c), [c, c, c])

    def test_the_way_to_the_right_from_home_to_last(self):
        self.assertEqual(ring_lacks(24, 3, 7, [], 0), [1, 0])
        self.assertEqual(ring_lacks(24, 7, 3, [], 0), [0, 1])
        self.assertEqual(ring_lacks(24, 7, 3, [], -1), [-1, 0])
        self.assertEqual(ring_lacks(24, 7, 3, [], 4), [4, 5])
        self.assertEqual(ring_lacks(24, 20, 5, [(2, 2, 1), (9, 9, 1), (22, 22, 1)], 0), [1, 0, 0, 1, 1])

    def test_boxes_to_the_right(self):
        self.assertEqual(ring_lacks(24, 3, 3, [(3, 9, 1)], 0), [-1, 0])
        self.assertEqual(ring_lacks(24, 3, 3, [(9, 3, 1)], 0), [0, -1])
        self.assertEqual(ring_lacks(24, 3, 3, [(9, 3, 1)] * 70, 1), [1, -69])

    def test_boxes_to_the_left(self):
        self.assertEqual(ring_lacks(24, 3, 3, [(3, 9, -1)], 0), [0, 1])
        self.assertEqual(ring_lacks(24, 3, 3, [(9, 3, -1)], 0), [1, 0])
        self.assertEqual(ring_lacks(24, 3, 3, [(3, 9, -1)] * 70, -2), [-2, 68])

    def test_all_of_them(self):
        # Stops 0, 3, 6, 9: one box goes either way over (3, 6) and (6, 9), the hook to the right from 0 to 6.
        self.assertEqual(ring_lacks(24, 0, 6, [(3, 9, 1), (9, 3, -1)], 0), [1, 1, 0, 0])
        # The box to the left goes round over the mark.
        self.assertEqual(ring_lacks(24, 0, 6, [(3, 9, 1), (3, 9, -1)], 0), [2, 0, -1, 1])
        self.assertEqual(ring_lacks(24, 0, 6, [(3, 9, 1), (3, 9, -1)], -2), [0, -2, -3, -1])

    def test_step_by_step_on_small_rings(self):
        for size, home, last, boxes in itertools.chain(small_rings(), mixed_rings(24, 100, 9, 12)):
            over = {place: 0 for place in range(size)}
            for step in steps_over(size, home, last, 1):
                over[step] += 1
            for start, goal, way in boxes:
                for step in steps_over(size, start, goal, way):
                    over[step] -= way
            for c in (-2, 0, 1):
                wanted = [over[place] + c for place in ring_stops(home, last, boxes)]
                self.assertEqual(ring_lacks(size, home, last, boxes, c), wanted, (size, home, last, boxes, c))

    def test_by_the_words(self):
        for size, home, last, boxes in rings():
            for c in (-FAR, -1, 0, 3):
                handed = list(boxes)
                told = ring_lacks(size, home, last, boxes, c)
                self.assertEqual(told, ring_lacks_by_words(size, home, last, boxes, c))
                self.assertEqual(boxes, handed)

    def test_kinds(self):
        told = ring_lacks(24, 0, 6, [(3, 9, 1), (9, 3, -1)], 2)
        self.assertIsInstance(told, list)
        self.assertTrue(all(is_whole(lack) for lack in told))

    def test_what_is_no_ring(self):
        for ring in wrong_rings():
            with self.subTest(ring=ring):
                before = copy.deepcopy(ring)
                check_refused(self, errors.NoRing, ring_lacks, *ring, 0)
                check_refused(self, errors.NoRing, ring_lacks, *ring, -3)
                self.assertEqual(repr(ring), repr(before))


class Turns(unittest.TestCase):
    """Promises 24 and 25."""

    def test_one_stop_alone(self):
        self.assertEqual(turns(24, 7, 7, []), [(-1, 24), (0, 0), (1, 24)])
        self.assertEqual(turns(24, 7, 7, [(7, 7, -1), (7, 7, 1)]), [(-1, 24), (0, 0), (1, 24)])
        self.assertEqual(turns(1, 0, 0, []), [(-1, 1), (0, 0), (1, 1)])
        self.assertEqual(turns(FAR, 3, 3, []), [(-1, FAR), (0, 0), (1, FAR)])

    def test_only_to_go(self):
        # To the right 4 steps, to the left 20; once round more for each turn beyond.
        self.assertEqual(turns(24, 3, 7, []), [(-2, 44), (-1, 20), (0, 4), (1, 28)])
        self.assertEqual(turns(24, 7, 3, []), [(-2, 28), (-1, 4), (0, 20), (1, 44)])

    def test_one_box(self):
        # Lacks for 0: -1 over (3, 9), 0 over (9, 3).
        self.assertEqual(turns(24, 3, 3, [(3, 9, 1)]), [
            (-1, 6 + 12 + 18), (0, 6 + 6), (1, 6 + 18), (2, 6 + 6 + 36),
        ])

    def test_what_hangs_apart(self):
        # Boxes go either way from 10 to 12; for 0 the nearer way there, by (2, 10), is gone twice.
        self.assertEqual(turns(24, 2, 2, [(10, 12, 1), (12, 10, -1)]), [(-1, 28), (0, 20), (1, 28)])
        # By (12, 2) it is nearer.
        self.assertEqual(turns(24, 2, 2, [(15, 20, 1), (20, 15, -1)]), [(-1, 34), (0, 22), (1, 34)])
        self.assertEqual(turns(24, 2, 2, [(14, 14, 1)]), [(-1, 24), (0, 24), (1, 24)])
        self.assertEqual(turns(24, 2, 2, [(9, 9, 1), (15, 15, 1)]), [(-1, 24), (0, 26), (1, 24)])

    def check_turns(self, size, home, last, boxes):
        handed = list(boxes)
        told = turns(size, home, last, boxes)
        self.assertEqual(boxes, handed)
        lacks = ring_lacks_by_words(size, home, last, boxes, 0)
        wanted = list(range(-1 - max(lacks), 1 - min(lacks))) + [1 - min(lacks)]
        self.assertEqual([c for c, weight in told], wanted, (size, home, last, boxes))
        for c, weight in told:
            self.assertEqual(weight, ring_weight_by_words(size, home, last, boxes, c), (size, home, last, boxes, c))

    def test_every_small_one(self):
        for ring in small_rings():
            self.check_turns(*ring)

    def test_mixed_ones(self):
        for size in (5, 12, 30, 10 ** 12, FAR):
            for ring in itertools.chain(mixed_rings(size, 40, 9, size), apart_rings(size, 40, size)):
                self.check_turns(*ring)

    def test_seventy_boxes_and_the_greatest_sizes(self):
        for ring in itertools.islice(far_rings(), 0, None, 3):
            self.check_turns(*ring)

    def test_beyond_either_end_it_weighs_the_more(self):
        for size, home, last, boxes in itertools.islice(small_rings(), 0, None, 31):
            told = turns(size, home, last, boxes)
            lower, upper = told[0][0], told[-1][0]
            for c in range(5):
                self.assertLess(
                    ring_weight_by_words(size, home, last, boxes, lower - c),
                    ring_weight_by_words(size, home, last, boxes, lower - c - 1),
                )
                self.assertLess(
                    ring_weight_by_words(size, home, last, boxes, upper + c),
                    ring_weight_by_words(size, home, last, boxes, upper + c + 1),
                )

    def test_kinds(self):
        told = turns(24, 0, 6, [(3, 9, 1), (9, 3, -1)])
        self.assertIsInstance(told, list)
        for one in told:
            self.assertIsInstance(one, tuple)
            self.assertEqual([is_whole(part) for part in one], [True, True])

    def test_what_is_no_ring(self):
        for ring in wrong_rings():
            with self.subTest(ring=ring):
                before = copy.deepcopy(ring)
                check_refused(self, errors.NoRing, turns, *ring)
                self.assertEqual(repr(ring), repr(before))


class RingLeast(unittest.TestCase):
    """Promises 4 and 25."""

    def test_nothing_to_do(self):
        self.assertEqual(ring_least(1, 0, 0, []), 0)
        self.assertEqual(ring_least(24, 7, 7, []), 0)
        self.assertEqual(ring_least(24, 7, 7, [(7, 7, 1), (7, 7, -1)]), 0)

    def test_the_nearer_way(self):
        self.assertEqual(ring_least(24, 3, 7, []), 4)
        self.assertEqual(ring_least(24, 7, 3, []), 4)
        self.assertEqual(ring_least(24, 1, 23, []), 2)
        self.assertEqual(ring_least(24, 0, 12, []), 12)
        self.assertEqual(ring_least(FAR, 0, FAR - 1, []), 1)

    def test_boxes(self):
        self.assertEqual(ring_least(24, 0, 6, [(3, 9, 1), (9, 3, -1)]), 18)
        self.assertEqual(ring_least(24, 3, 3, [(3, 9, 1)]), 12)
        self.assertEqual(ring_least(24, 3, 3, [(3, 20, 1)]), 24)
        self.assertEqual(ring_least(24, 3, 3, [(3, 20, -1)]), 14)
        self.assertEqual(ring_least(24, 3, 3, [(20, 20, 1)]), 14)
        self.assertEqual(ring_least(24, 0, 0, [(8, 8, 1), (16, 16, -1)]), 24)
        self.assertEqual(ring_least(FAR, 0, 0, [(0, FAR - 1, 1)] * 70), 70 * FAR)
        self.assertEqual(ring_least(FAR, 0, 0, [(1, 0, 1)] * 70), 70 * FAR)

    def test_the_least_of_the_turns(self):
        for size, home, last, boxes in rings():
            handed = list(boxes)
            told = ring_least(size, home, last, boxes)
            self.assertTrue(is_whole(told))
            self.assertEqual(told, sorted(weight for c, weight in turns(size, home, last, boxes))[0])
            self.assertEqual(boxes, handed)

    def test_no_tour_is_shorter(self):
        for ring in itertools.islice(small_rings(), 0, None, 2):
            self.assertEqual(ring_least(*ring), ring_least_by_search(*ring), ring)
        for size in (4, 5, 8, 13):
            for ring in itertools.chain(mixed_rings(size, 60, 4, size), apart_rings(size, 12, size)):
                self.assertEqual(ring_least(*ring), ring_least_by_search(*ring), ring)

    def test_no_less_than_the_boxes_are_carried(self):
        for size, home, last, boxes in mixed_rings(9, 50, 9, 20):
            carried = sum(steps_walked(size, *box) for box in boxes)
            self.assertGreaterEqual(ring_least(size, home, last, boxes), carried)

    def test_what_is_no_ring(self):
        for ring in wrong_rings():
            with self.subTest(ring=ring):
                before = copy.deepcopy(ring)
                check_refused(self, errors.NoRing, ring_least, *ring)
                self.assertEqual(repr(ring), repr(before))


class NewLists(unittest.TestCase):
    """Promise 2."""

    def test_each_list_is_new(self):
        asks = [ring_gaps, turns, lambda *ring: ring_lacks(*ring, 1)]
        for ask, boxes in itertools.product(asks, [[], [(5, 5, 1)], [(3, 9, 1), (9, 3, -1)]]):
            boxes = list(boxes)
            told = ask(24, 5, 5, boxes)
            kept = list(told)
            check_own_lists(self, [told, ask(24, 5, 5, boxes)], boxes)
            ask(24, 5, 5, boxes).append(None)
            boxes.append((20, 2, 1))
            ask(24, 5, 5, boxes)
            self.assertEqual(told, kept)


if __name__ == "__main__":
    unittest.main()
