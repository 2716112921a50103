import copy
import itertools
import random
import unittest

from hookrail import errors
from hookrail.rows import row_of
from samples import FAR, check_own_lists, check_refused, is_whole


def is_row(start, arcs, row):
    if sorted(row) != list(range(len(arcs))):
        return False
    here = start
    for number in row:
        if arcs[number][0] != here:
            return False
        here = arcs[number][1]
    return here == start


def closed_walk(chance, places, count):
    """The arcs of a walk that comes back, out of their order, and a place on it."""
    here = start = chance.choice(places)
    arcs = []
    for _ in range(count - 1):
        there = chance.choice(places)
        arcs.append((here, there))
        here = there
    arcs.append((here, start))
    chance.shuffle(arcs)
    return start, arcs


class Rows(unittest.TestCase):
    """Promise 14."""

    def check_row(self, start, arcs):
        told = row_of(start, arcs)
        self.assertIsInstance(told, list)
        self.assertTrue(all(is_whole(number) for number in told))
        self.assertTrue(is_row(start, arcs, told), (start, arcs[:20], told[:20]))

    def test_no_arcs(self):
        for start in (0, 5, -7, FAR, -FAR):
            self.assertEqual(row_of(start, []), [])

    def test_one_round(self):
        self.assertEqual(row_of(1, [(1, 5), (5, 3), (3, 1)]), [0, 1, 2])
        self.assertEqual(row_of(5, [(1, 5), (5, 3), (3, 1)]), [1, 2, 0])
        self.assertEqual(row_of(1, [(3, 1), (5, 3), (1, 5)]), [2, 1, 0])

    def test_from_a_place_to_the_same_one(self):
        self.assertEqual(row_of(4, [(4, 4)]), [0])
        self.check_row(4, [(4, 4), (4, 4), (4, 4)])
        self.check_row(-2, [(-2, 3), (3, 3), (3, -2), (-2, -2), (3, 3)])

    def test_arcs_told_twice(self):
        self.check_row(0, [(0, 1), (0, 1), (1, 0), (1, 0)])
        self.check_row(1, [(0, 1), (0, 1), (1, 2), (1, 2), (2, 0), (2, 0)])

    def test_a_round_that_is_met_on_the_way(self):
        self.check_row(0, [(0, 1), (1, 0), (1, 2), (2, 1), (2, 3), (3, 2)])
        self.check_row(0, [(2, 3), (3, 2), (1, 2), (2, 1), (0, 1), (1, 0)])

    def test_arcs_that_meet_in_one_place_again_and_again(self):
        out_and_back = [(0, number) for number in range(1, 1001)] + [(number, 0) for number in range(1, 1001)]
        chance = random.Random(14)
        for start in (0, 1, 700, 1000):
            chance.shuffle(out_and_back)
            self.check_row(start, out_and_back)
        self.check_row(3, [(3, 3)] * 2000)
        self.check_row(3, [(3, 4), (4, 3)] * 1000)

    def test_two_thousand_arcs_in_one_row(self):
        places = list(range(-1000, 1000))
        chance = random.Random(15)
        chance.shuffle(places)
        arcs = list(zip(places, places[1:] + places[:1]))
        for start in (places[0], places[777], 0):
            self.check_row(start, arcs)
            self.check_row(start, list(reversed(arcs)))
            mixed = list(arcs)
            chance.shuffle(mixed)
            self.check_row(start, mixed)

    def test_two_thousand_arcs_there_and_back(self):
        chain = list(zip(range(1000), range(1, 1001)))
        arcs = chain + [(right, left) for left, right in chain]
        for start in (0, 500, 1000):
            self.check_row(start, arcs)
            self.check_row(start, list(reversed(arcs)))

    def test_walks_that_come_back(self):
        chance = random.Random(16)
        for count in list(range(1, 60)) + [500, 2000]:
            for reach in (2, 5, 40, FAR):
                places = [chance.randint(-reach, reach) for _ in range(chance.randint(1, 12))]
                start, arcs = closed_walk(chance, places, count)
                self.check_row(start, arcs)

    def test_every_list_of_few_arcs(self):
        pairs = list(itertools.product(range(3), repeat=2))
        for count in range(4):
            for arcs in itertools.product(pairs, repeat=count):
                for start in range(4):
                    orders = itertools.permutations(range(count))
                    if any(is_row(start, arcs, order) for order in orders):
                        self.check_row(start, list(arcs))
                    else:
                        check_refused(self, errors.NoRow, row_of, start, list(arcs))

    def test_nothing_handed_in_is_changed_and_each_list_is_new(self):
        arcs = [(0, 1), (2, 0), (1, 2), (0, 0)]
        told = row_of(0, arcs)
        kept = list(told)
        self.assertEqual(arcs, [(0, 1), (2, 0), (1, 2), (0, 0)])
        check_own_lists(self, [told, row_of(0, arcs)], arcs)
        row_of(0, arcs).append(9)
        arcs.append((2, 2))
        row_of(0, arcs)
        self.assertEqual(told, kept)
        arcs = []
        told = row_of(0, arcs)
        check_own_lists(self, [told, row_of(0, arcs)], arcs)
        told.append(4)
        self.assertEqual(row_of(0, []), [])


class NoRows(unittest.TestCase):
    """Promise 14."""

    def check_none(self, start, arcs):
        before = copy.deepcopy(arcs)
        check_refused(self, errors.NoRow, row_of, start, arcs)
        self.assertEqual(arcs, before)

    def test_not_as_many_begin_as_end(self):
        for start in (0, 1, 2):
            self.check_none(start, [(0, 1)])
            self.check_none(start, [(0, 1), (1, 2)])
            self.check_none(start, [(0, 1), (1, 0), (0, 1)])
            self.check_none(start, [(0, 1), (1, 2), (2, 0), (1, 0)])
            self.check_none(start, [(0, 1), (0, 1)])
        # As many at the place to begin at, not at others.
        self.check_none(0, [(0, 1), (1, 0), (1, 2)])
        self.check_none(0, [(0, 1), (2, 0)])

    def test_two_parts(self):
        self.check_none(0, [(0, 1), (1, 0), (2, 3), (3, 2)])
        self.check_none(2, [(0, 1), (1, 0), (2, 3), (3, 2)])
        self.check_none(0, [(0, 0), (1, 1)])
        self.check_none(1, [(0, 1), (1, 0), (5, 5)])

    def test_the_place_to_begin_at_is_on_none(self):
        self.check_none(7, [(0, 1), (1, 0)])
        self.check_none(1, [(0, 0)])
        self.check_none(FAR, [(-FAR, 1 - FAR), (1 - FAR, -FAR)])

    def test_long_ones(self):
        places = list(range(2000))
        arcs = list(zip(places, places[1:]))
        self.check_none(0, arcs)
        self.check_none(1999, arcs)
        halves = []
        for low in (0, 1000):
            half = places[low:low + 1000]
            halves += list(zip(half, half[1:] + half[:1]))
        self.check_none(0, halves)
        self.check_none(1500, halves)

    def test_a_walk_that_comes_back_without_one_of_its_arcs(self):
        chance = random.Random(17)
        for _ in range(200):
            start, arcs = closed_walk(chance, list(range(5)), chance.randint(2, 20))
            number = chance.randrange(len(arcs))
            if arcs[number][0] != arcs[number][1]:
                self.check_none(start, arcs[:number] + arcs[number + 1:])


if __name__ == "__main__":
    unittest.main()
