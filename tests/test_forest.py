import copy
import itertools
import random
import unittest

from hookrail.forest import forest, levels, weighed
from hookrail.groups import groups
from samples import FAR, check_own_lists, is_whole


def ties_of(edges):
    return [(one, other) for one, other, long in edges]


def cost_of(edges):
    return sum(long for one, other, long in edges)


def forest_step_by_step(things, knots, edges):
    """The forest by the words of promise 11, the groups asked for anew at each edge."""
    taken = []
    for number, edge in sorted(enumerate(edges), key=lambda pair: (pair[1][2], pair[0])):
        parts = groups(things, knots + ties_of(taken))
        if not any(edge[0] in part and edge[1] in part for part in parts):
            taken.append(edge)
    return taken


def levels_step_by_step(things, knots, edges):
    """The levels by the words of promise 12."""
    told = []
    for bound in sorted({long for one, other, long in forest_step_by_step(things, knots, edges)}):
        told.append((bound, groups(things, knots + ties_of([edge for edge in edges if edge[2] < bound]))))
    return told


def mixed_cases(seed, count, most_things, most_edges, dearest):
    chance = random.Random(seed)
    for _ in range(count):
        things = chance.sample(range(-20, 20), chance.randint(1, most_things))
        knots = [(chance.choice(things), chance.choice(things)) for _ in range(chance.randint(0, 2))]
        edges = [
            (chance.choice(things), chance.choice(things), chance.randint(1, dearest))
            for _ in range(chance.randint(0, most_edges))
        ]
        yield things, knots, edges


def great_cases():
    """Three hundred things and edges, in chains and in disorder, of small and of the greatest costs."""
    chance = random.Random(11)
    for dearest in (1, 5, 10 ** 42):
        things = chance.sample(range(-FAR, FAR, FAR // 1000), 300)
        chain = [(one, other, chance.randint(1, dearest)) for one, other in zip(things, things[1:])]
        chance.shuffle(chain)
        yield things, [], chain
        yield things, [(things[0], things[-1]), (things[3], things[90])], chain
        edges = [(chance.choice(things), chance.choice(things), chance.randint(1, dearest)) for _ in range(300)]
        knots = [(chance.choice(things), chance.choice(things)) for _ in range(30)]
        yield things, knots, edges


class Forest(unittest.TestCase):
    """Promises 11 and 12."""

    def test_nothing_to_tie(self):
        self.assertEqual(forest([], [], []), [])
        self.assertEqual(forest([4], [], []), [])
        self.assertEqual(forest([4, 7], [], []), [])
        self.assertEqual(forest([4, 7], [(4, 7)], []), [])

    def test_by_cost_rising(self):
        edges = [(0, 1, 9), (1, 2, 4), (2, 3, 6), (3, 0, 5)]
        self.assertEqual(forest([0, 1, 2, 3], [], edges), [(1, 2, 4), (3, 0, 5), (2, 3, 6)])

    def test_alike_in_cost_as_they_stand_in_the_list(self):
        edges = [(2, 0, 3), (1, 2, 3), (0, 1, 3)]
        for row in itertools.permutations(edges):
            self.assertEqual(forest([0, 1, 2], [], list(row)), list(row)[:2])
        edges = [(5, 6, 2), (1, 2, 2), (9, 8, 1), (3, 4, 2), (7, 6, 1)]
        self.assertEqual(
            forest([1, 2, 3, 4, 5, 6, 7, 8, 9], [], edges),
            [(9, 8, 1), (7, 6, 1), (5, 6, 2), (1, 2, 2), (3, 4, 2)],
        )

    def test_an_edge_of_one_thing_with_itself_is_never_taken(self):
        self.assertEqual(forest([4], [], [(4, 4, 1)]), [])
        self.assertEqual(forest([4, 5], [], [(4, 4, 1), (5, 4, 8), (5, 5, 2)]), [(5, 4, 8)])

    def test_knots_that_tie_already(self):
        edges = [(0, 1, 1), (1, 2, 2), (2, 3, 3)]
        self.assertEqual(forest([0, 1, 2, 3], [(0, 1)], edges), [(1, 2, 2), (2, 3, 3)])
        self.assertEqual(forest([0, 1, 2, 3], [(2, 0)], edges), [(0, 1, 1), (2, 3, 3)])
        self.assertEqual(forest([0, 1, 2, 3], [(3, 0), (1, 2)], edges), [(0, 1, 1)])
        self.assertEqual(forest([0, 1, 2, 3], [(3, 3), (1, 1)], edges), edges)
        self.assertEqual(forest([0, 1, 2, 3], [(0, 1), (1, 2), (2, 3)], edges), [])

    def test_edges_told_twice(self):
        self.assertEqual(forest([0, 1], [], [(0, 1, 4), (0, 1, 4)]), [(0, 1, 4)])
        self.assertEqual(forest([0, 1], [], [(0, 1, 4), (1, 0, 4)]), [(0, 1, 4)])
        self.assertEqual(forest([0, 1], [], [(1, 0, 4), (0, 1, 4)]), [(1, 0, 4)])
        self.assertEqual(forest([0, 1], [], [(0, 1, 4), (0, 1, 3)]), [(0, 1, 3)])

    def test_where_all_edges_leave_parts(self):
        self.assertEqual(forest([0, 1, 2, 3, 4], [], [(0, 1, 7), (2, 3, 5)]), [(2, 3, 5), (0, 1, 7)])

    def test_by_the_words(self):
        for things, knots, edges in mixed_cases(12, 400, 8, 14, 4):
            self.assertEqual(forest(things, knots, edges), forest_step_by_step(things, knots, edges))

    def test_it_ties_what_all_edges_tie_and_needs_each_edge_for_it(self):
        for things, knots, edges in itertools.chain(mixed_cases(13, 300, 8, 14, 4), great_cases()):
            taken = forest(things, knots, edges)
            wanted = groups(things, knots + ties_of(edges))
            self.assertEqual(groups(things, knots + ties_of(taken)), wanted)
            bare = len(groups(things, knots))
            self.assertEqual(len(taken), bare - len(wanted))
            for number in range(0, len(taken), 1 + len(taken) // 20):
                fewer = taken[:number] + taken[number + 1:]
                self.assertNotEqual(groups(things, knots + ties_of(fewer)), wanted)

    def test_no_choice_costs_less(self):
        for things, knots, edges in mixed_cases(14, 60, 6, 8, 9):
            wanted = groups(things, knots + ties_of(edges))
            costs = []
            for count in range(len(edges) + 1):
                for choice in itertools.combinations(edges, count):
                    if groups(things, knots + ties_of(choice)) == wanted:
                        costs.append(cost_of(choice))
            self.assertEqual(cost_of(forest(things, knots, edges)), min(costs))

    def test_great_ones(self):
        for things, knots, edges in great_cases():
            self.assertEqual(forest(things, knots, edges), forest_step_by_step(things, knots, edges))

    def test_nothing_handed_in_is_changed_and_each_list_is_new(self):
        things, knots, edges = [2, 0, 1], [(1, 1)], [(0, 1, 5), (1, 2, 3)]
        before = copy.deepcopy((things, knots, edges))
        told = forest(things, knots, edges)
        self.assertEqual((things, knots, edges), before)
        self.assertEqual(told, [(1, 2, 3), (0, 1, 5)])
        check_own_lists(self, [told, forest(things, knots, edges)], things, knots, edges)
        edges.append((0, 2, 1))
        forest(things, knots, edges).append((7, 7, 7))
        self.assertEqual(told, [(1, 2, 3), (0, 1, 5)])
        self.assertTrue(all(isinstance(edge, tuple) for edge in told))
        # Where it takes all edges in their order it is still a list of its own.
        edges = [(0, 1, 3), (1, 2, 5)]
        check_own_lists(self, forest(things, [], edges), edges)


class Levels(unittest.TestCase):
    """Promise 12."""

    def test_no_forest_no_levels(self):
        self.assertEqual(levels([], [], []), [])
        self.assertEqual(levels([4, 7], [], []), [])
        self.assertEqual(levels([4, 7], [(4, 7)], [(4, 7, 2)]), [])
        self.assertEqual(levels([4], [], [(4, 4, 2)]), [])

    def test_each_cost_of_the_forest_once_and_rising(self):
        edges = [(0, 1, 9), (1, 2, 4), (2, 3, 9), (3, 4, 4)]
        self.assertEqual(
            levels([4, 3, 2, 1, 0], [], edges),
            [(4, [[0], [1], [2], [3], [4]]), (9, [[0], [1, 2], [3, 4]])],
        )

    def test_costs_of_edges_outside_the_forest_are_none(self):
        edges = [(0, 1, 2), (0, 1, 3), (2, 2, 1), (1, 2, 7), (0, 2, 8)]
        self.assertEqual(levels([0, 1, 2], [], edges), [(2, [[0], [1], [2]]), (7, [[0, 1], [2]])])

    def test_knots_tie_from_the_first_level_on(self):
        edges = [(0, 1, 2), (1, 2, 5), (2, 3, 9)]
        self.assertEqual(levels([0, 1, 2, 3], [(1, 2)], edges), [(2, [[0], [1, 2], [3]]), (9, [[0, 1, 2], [3]])])

    def test_groups_are_sorted_and_by_their_least_things(self):
        edges = [(9, -4, 1), (0, 5, 1), (5, -4, 3)]
        self.assertEqual(levels([5, 9, 0, -4], [], edges), [(1, [[-4], [0], [5], [9]]), (3, [[-4, 9], [0, 5]])])

    def test_by_the_words(self):
        for things, knots, edges in mixed_cases(15, 400, 8, 14, 6):
            self.assertEqual(levels(things, knots, edges), levels_step_by_step(things, knots, edges))

    def test_great_ones(self):
        for things, knots, edges in great_cases():
            self.assertEqual(levels(things, knots, edges), levels_step_by_step(things, knots, edges))

    def test_all_edges_that_cost_less_tie_and_no_others(self):
        # An edge of the forest lies between two groups of the level of its cost, whatever edges cost less.
        for things, knots, edges in mixed_cases(16, 200, 8, 14, 6):
            for bound, parts in levels(things, knots, edges):
                for edge in edges:
                    together = any(edge[0] in part and edge[1] in part for part in parts)
                    self.assertTrue(together or edge[2] >= bound)
                for edge in forest(things, knots, edges):
                    together = any(edge[0] in part and edge[1] in part for part in parts)
                    self.assertEqual(together, edge[2] < bound)

    def test_kinds(self):
        told = levels([0, 1, 2], [], [(0, 1, 2), (1, 2, 7)])
        self.assertIsInstance(told, list)
        for level in told:
            self.assertIsInstance(level, tuple)
            self.assertEqual(len(level), 2)
            self.assertTrue(is_whole(level[0]))
            self.assertIsInstance(level[1], list)

    def test_each_list_is_its_own(self):
        things, knots, edges = [3, 0, 1, 2], [(0, 0)], [(0, 1, 2), (1, 2, 7), (2, 3, 9)]
        before = copy.deepcopy((things, knots, edges))
        told = levels(things, knots, edges)
        self.assertEqual((things, knots, edges), before)
        check_own_lists(self, [told, levels(things, knots, edges)], things, knots, edges)
        kept = copy.deepcopy(told)
        again = levels(things, knots, edges)
        again[0][1][0].append(5)
        again[0][1].append([8])
        self.assertEqual(again[1:], kept[1:])
        self.assertEqual(told, kept)
        self.assertEqual(levels(things, knots, edges), kept)
        edges.append((0, 3, 1))
        self.assertEqual(told, kept)


class Weighed(unittest.TestCase):
    """Promise 13."""

    def test_no_levels(self):
        for rest in (-3, 0, 1, 7):
            self.assertEqual(weighed([], rest), 0)

    def test_told_levels_weigh_what_the_forest_costs(self):
        for things, knots, edges in itertools.chain(mixed_cases(17, 400, 8, 14, 9), great_cases()):
            rest = len(groups(things, knots + ties_of(edges)))
            told = levels(things, knots, edges)
            self.assertEqual(weighed(told, rest), cost_of(forest(things, knots, edges)))

    def test_other_levels_and_other_rests(self):
        self.assertEqual(weighed([(5, [[1], [2]])], 1), 5)
        self.assertEqual(weighed([(5, [[1], [2]])], 2), 0)
        self.assertEqual(weighed([(5, [[1], [2]])], 3), -5)
        self.assertEqual(weighed([(5, [[1], [2]])], 0), 10)
        self.assertEqual(weighed([(5, [[1], [2]])], -1), 15)
        # 2 * (3 - 1) + 5 * (2 - 1) + 1 * (4 - 1)
        self.assertEqual(weighed([(2, [[0], [1], [2]]), (7, [[0, 1], [2]]), (8, [[0], [1], [2], [3]])], 1), 12)
        self.assertEqual(weighed([(1, [[0, 1, 2]]), (4, [[0], [1], [2]])], 2), -1 + 3)
        self.assertEqual(weighed([(3, [])], 2), -6)

    def test_by_the_sum(self):
        chance = random.Random(18)
        for _ in range(300):
            bounds = sorted(chance.sample(range(1, 60), chance.randint(0, 8)))
            given = [(bound, [[number] for number in range(chance.randint(0, 7))]) for bound in bounds]
            rest = chance.randint(-4, 9)
            steps = [bound - ahead for bound, ahead in zip(bounds, [0] + bounds)]
            wanted = sum(step * (len(parts) - rest) for step, (bound, parts) in zip(steps, given))
            self.assertEqual(weighed(given, rest), wanted)

    def test_great_costs(self):
        self.assertEqual(weighed([(10 ** 42 - 1, [[1], [2], [3]]), (10 ** 42, [[1], [2, 3]])], 1), 2 * 10 ** 42 - 1)

    def test_nothing_handed_in_is_changed(self):
        given = [(2, [[2], [1], [0]]), (7, [[2], [1, 0]])]
        before = copy.deepcopy(given)
        self.assertTrue(is_whole(weighed(given, 1)))
        self.assertEqual(given, before)


if __name__ == "__main__":
    unittest.main()
