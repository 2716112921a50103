import copy
import itertools
import unittest

from hookrail import errors
from hookrail.tours import is_tour, length
from hookrail.yards import passes, yard_least
from hookrail.yardtours import is_yard_tour, yard_tour
from oracles import yard_least_by_search
from samples import (
    FAR, NO_PLACES, check_own_lists, check_refused, far_yards, is_whole, mixed_yards, nested_boxes, small_yards, spoilt,
    three_box_yards, wrong_yards,
)

# Box 0 is set down on its way and taken up again, box 2 is carried to a place left of the gate and back.
BOXES = [(3, 9), (8, 4), (6, 6)]
TOUR = [
    ("go", 2, 3), ("box", 0, 3, 8), ("box", 1, 8, 4), ("go", 4, 8), ("box", 0, 8, 9), ("go", 9, 6), ("box", 2, 6, 1),
    ("box", 2, 1, 6), ("go", 6, 2),
]


def does_yard(gate, boxes, moves):
    """Whether well-made moves are a yard's tour, by following the hook and the boxes."""
    here = gate
    lying = {number: start for number, (start, goal) in enumerate(boxes)}
    for move in moves:
        start, goal = move[-2:]
        if start == goal or start != here:
            return False
        if move[0] == "box":
            if lying.get(move[1], None) != start:
                return False
            lying[move[1]] = goal
        here = goal
    return here == gate and all(lying[number] == goal for number, (start, goal) in enumerate(boxes))


class IsYardTour(unittest.TestCase):
    """Promise 20."""

    def check(self, wanted, moves, gate=2, boxes=BOXES):
        before = copy.deepcopy((boxes, moves))
        self.assertIs(is_yard_tour(gate, boxes, moves), wanted, (gate, boxes, moves))
        self.assertEqual(repr((boxes, moves)), repr(before))

    def test_a_tour(self):
        self.check(True, TOUR)

    def test_no_moves(self):
        self.check(True, [], 4, [])
        self.check(True, [], 4, [(4, 4)])
        self.check(True, [], 4, [(9, 9), (4, 4)])
        self.check(False, [], 4, [(4, 5)])
        self.check(False, [], 4, [(9, 9), (6, 5)])

    def test_other_tours(self):
        for gate, boxes, moves in [
            (0, [], [("go", 0, 5), ("go", 5, -5), ("go", -5, 0)]),
            (0, [(5, 5)], [("go", 0, 9), ("go", 9, 0)]),
            (0, [(0, 5)], [("box", 0, 0, 5), ("go", 5, 0)]),
            (0, [(5, 0)], [("go", 0, 5), ("box", 0, 5, 0)]),
            (0, [(0, 5)], [("box", 0, 0, 3), ("box", 0, 3, 5), ("go", 5, 0)]),
            (0, [(0, 5)], [("box", 0, 0, 9), ("box", 0, 9, 5), ("go", 5, 0)]),
            (0, [(0, 5)], [("box", 0, 0, -4), ("go", -4, 1), ("go", 1, -4), ("box", 0, -4, 5), ("go", 5, 0)]),
            (0, [(0, 5), (0, 5)], [("box", 1, 0, 5), ("go", 5, 0), ("box", 0, 0, 5), ("go", 5, 0)]),
            (0, [(0, 5), (5, 0)], [("box", 0, 0, 5), ("box", 1, 5, 0)]),
            (0, [(3, 3)], [("go", 0, 3), ("box", 0, 3, 0), ("box", 0, 0, 3), ("go", 3, 0)]),
            (-FAR, [(-FAR, FAR)], [("box", 0, -FAR, FAR), ("go", FAR, -FAR)]),
        ]:
            self.check(True, moves, gate, boxes)

    def test_nested_boxes_set_down_amid_the_way(self):
        moves = [("box", 0, 0, 4), ("box", 2, 4, 7), ("box", 3, 7, 4), ("box", 0, 4, 10), ("box", 1, 10, 0)]
        self.check(True, moves, 0, [(0, 10), (10, 0), (4, 7), (7, 4)])

    def test_a_box_from_where_it_does_not_lie(self):
        # It was carried away, it was not yet carried there, it never lies there.
        self.check(False, [("box", 0, 0, 5), ("go", 5, 0), ("box", 0, 0, 5), ("go", 5, 0)], 0, [(0, 5)])
        self.check(False, [("go", 0, 3), ("box", 0, 3, 5), ("go", 5, 0)], 0, [(0, 5)])
        self.check(False, [("go", 0, 3), ("box", 0, 3, 5), ("go", 5, 0), ("box", 0, 0, 3), ("go", 3, 0)], 0, [(0, 5)])
        self.check(False, [("box", 0, 0, 3), ("go", 3, 4), ("box", 0, 4, 5), ("go", 5, 0)], 0, [(0, 5)])
        self.check(False, [("go", 0, 5), ("box", 0, 5, 0)], 0, [(0, 5)])
        # The numbers of two boxes exchanged.
        self.check(False, [("box", 1, 0, 5), ("box", 0, 5, 0)], 0, [(0, 5), (5, 0)])

    def test_a_go_or_a_carrying_that_stays(self):
        for number in range(len(TOUR) + 1):
            here = TOUR[number][-2] if number < len(TOUR) else 2
            self.check(False, TOUR[:number] + [("go", here, here)] + TOUR[number:])
        for number in (1, 2, 4, 6, 7):
            word, box, here, there = TOUR[number]
            self.check(False, TOUR[:number] + [(word, box, here, here)] + TOUR[number:])
            self.check(False, TOUR[:number + 1] + [(word, box, there, there)] + TOUR[number + 1:])
        self.check(False, [("go", 4, 4)], 4, [])
        self.check(False, [("box", 0, 4, 4)], 4, [(4, 4)])
        self.check(False, [("go", 4, 6), ("box", 0, 6, 6), ("go", 6, 4)], 4, [(6, 6)])

    def test_a_box_that_does_not_lie_at_its_goal_behind_all(self):
        self.check(False, [("go", 0, 5), ("go", 5, 0)], 0, [(0, 5)])
        self.check(False, [("box", 0, 0, 4), ("go", 4, 0)], 0, [(0, 5)])
        self.check(False, [("box", 0, 0, 6), ("go", 6, 0)], 0, [(0, 5)])
        self.check(False, [("box", 0, 0, 5), ("box", 0, 5, 0)], 0, [(0, 5)])
        self.check(False, [("box", 0, 0, 5), ("go", 5, 0)], 0, [(0, 5), (0, 5)])
        self.check(False, [("go", 0, 3), ("box", 0, 3, 0)], 0, [(3, 3)])
        self.check(False, TOUR[:6] + [("box", 2, 6, 2)])
        self.check(False, TOUR[:6] + [("box", 2, 6, 1), ("go", 1, 2)])

    def test_a_wrong_beginning_or_end(self):
        self.check(False, TOUR, 3)
        self.check(False, TOUR, 1)
        self.check(False, TOUR[1:])
        self.check(False, TOUR[:-1])
        self.check(False, TOUR[:-1] + [("go", 6, 3)])
        self.check(False, [("go", 0, 3)] + TOUR[1:])
        self.check(False, TOUR + [("go", 2, 3)])
        self.check(False, [("go", 3, 2)] + TOUR)
        self.check(False, [("go", 1, 5)], 1, [])
        self.check(False, [("go", 5, 1)], 1, [])
        self.check(False, [("go", 5, 6), ("go", 6, 5)], 1, [])

    def test_a_move_left_out_or_doubled_or_exchanged(self):
        for number in range(len(TOUR)):
            self.check(False, TOUR[:number] + TOUR[number + 1:])
            self.check(False, TOUR[:number] + [TOUR[number]] + TOUR[number:])
        for one, other in itertools.combinations(range(len(TOUR)), 2):
            moves = list(TOUR)
            moves[one], moves[other] = moves[other], moves[one]
            self.check(False, moves)

    def test_a_number_of_no_box(self):
        for number in (-FAR, -4, -3, -2, -1, 3, 4, 99, FAR):
            for place in (1, 2, 4, 6, 7):
                word, box, here, there = TOUR[place]
                self.check(False, TOUR[:place] + [(word, number, here, there)] + TOUR[place + 1:])
                there_and_back = [(word, number, here, there), (word, number, there, here)]
                self.check(False, TOUR[:place] + there_and_back + TOUR[place:])
        self.check(False, [("box", -1, 0, 5), ("go", 5, 0)], 0, [(0, 5)])
        self.check(False, [("box", 1, 0, 5), ("go", 5, 0)], 0, [(0, 5)])
        self.check(False, [("box", 0, 0, 5), ("go", 5, 0), ("box", -1, 0, 5), ("go", 5, 0)], 0, [(0, 5), (0, 5)])
        self.check(False, [("box", 0, 0, 5), ("go", 5, 0)], 0, [])
        self.check(False, [("box", 0, 0, 5), ("box", 0, 5, 0)], 0, [])

    def test_what_is_of_another_form(self):
        for other in spoilt(TOUR):
            with self.subTest(other=other):
                self.check(False, other)

    def test_a_part_of_a_move_that_is_none(self):
        for number, move in enumerate(TOUR):
            for place in range(len(move)):
                for wrong in NO_PLACES + ["go", "box", ("go",), 77]:
                    if wrong != move[place]:
                        other = move[:place] + (wrong,) + move[place + 1:]
                        self.check(False, TOUR[:number] + [other] + TOUR[number + 1:])

    def test_truths_are_no_numbers(self):
        boxes = [(0, 1), (1, 0)]
        moves = [("box", 0, 0, 1), ("box", 1, 1, 0), ("go", 0, 1), ("go", 1, 0)]
        self.check(True, moves, 0, boxes)
        for number, move in enumerate(moves):
            for place in range(1, len(move)):
                other = move[:place] + (bool(move[place]),) + move[place + 1:]
                self.check(False, moves[:number] + [other] + moves[number + 1:], 0, boxes)

    def test_a_word_that_is_none(self):
        for word in ["carry", "Box", "GO", "box ", "go\n", "", None, True, 0, ("box",), ["go"], "go", "set"]:
            self.check(False, [(word, 0, 0, 5), ("go", 5, 0)], 0, [(0, 5)])
            self.check(False, [("box", 0, 0, 5), (word, 0, 5, 0)], 0, [(0, 5)])
        for word in ["carry", "Box", "GO", "go ", "box\n", "", None, True, 0, ("go",), ["box"], "box", "set"]:
            self.check(False, [(word, 0, 5), ("go", 5, 0)], 0, [])
            self.check(False, [("box", 0, 0, 5), (word, 5, 0)], 0, [(0, 5)])

    def test_the_whole_is_no_list(self):
        for thing in [tuple(TOUR), None, True, False, 0, 7, "", "go", (), TOUR[0], "\t\n ~", repr(TOUR), [[]], [()],
                      [TOUR], [None], [[[[[[]]]]]]]:
            self.check(False, thing)
            self.check(False, thing, 3, [])
            self.check(False, thing, 3, [(4, 4)])

    def test_every_list_of_few_moves(self):
        pairs = list(itertools.product(range(-1, 2), repeat=2))
        candidates = [("go", *pair) for pair in pairs] + [("box", number, *pair) for number in (0, 1) for pair in pairs]
        found = self.found_by_both(
            itertools.chain.from_iterable(itertools.product(candidates, repeat=count) for count in range(4))
        )
        self.assertGreater(found[True], 10)

    def test_every_short_way_of_the_hook(self):
        # The places that the hook comes to one behind the other, and what it carries to each.
        steps = list(itertools.product([-1, 0, 1], [("go",), ("box", 0), ("box", 1)]))
        ways = []
        for gate, count in itertools.product((-1, 0), range(5)):
            for way in itertools.product(steps, repeat=count):
                places = [gate] + [place for place, begun in way]
                ways.append([begun + pair for (place, begun), pair in zip(way, itertools.pairwise(places))])
        found = self.found_by_both(ways)
        self.assertGreater(found[True], 40)

    def found_by_both(self, rows):
        yards = [(0, []), (0, [(0, 1)]), (0, [(1, 0), (1, 1)]), (-1, [(-1, 1), (1, -1)])]
        found = {True: 0, False: 0}
        for moves in rows:
            for gate, boxes in yards:
                wanted = does_yard(gate, boxes, moves)
                found[wanted] += 1
                self.assertIs(is_yard_tour(gate, boxes, list(moves)), wanted, (gate, boxes, moves))
        return found

    def test_long_tours(self):
        moves = [("box", 0, 0, 1), ("box", 0, 1, 0)] * 1000
        self.check(True, moves, 0, [(0, 0)])
        self.check(False, moves, 0, [(0, 1)])
        self.check(False, moves[1:], 0, [(0, 0)])
        self.check(False, moves[:-1], 0, [(0, 0)])

    def test_what_is_no_yard(self):
        for yard in wrong_yards():
            for thing in ([], [("go", 0, 5), ("go", 5, 0)], None, "", (), TOUR):
                before = copy.deepcopy((yard, thing))
                check_refused(self, errors.NoYard, is_yard_tour, *yard, thing)
                self.assertEqual(repr((yard, thing)), repr(before))


def crossings(rail, moves):
    told = {gap: [0, 0] for gap in rail}
    for move in moves:
        low, high = sorted(move[-2:])
        for gap in rail:
            if low <= gap[0] and gap[1] <= high:
                told[gap][move[-2] > move[-1]] += 1
    return told


class YardTour(unittest.TestCase):
    """Promises 4 and 21."""

    def check_tour(self, gate, boxes):
        yard = (gate, boxes)
        handed = list(boxes)
        told = yard_tour(gate, boxes)
        self.assertEqual(boxes, handed)
        self.assertIsInstance(told, list)
        self.assertIs(is_yard_tour(gate, boxes, told), True, yard)
        self.assertTrue(does_yard(gate, boxes, told), yard)
        rail = {(left, right): [times, times] for left, right, times in passes(gate, boxes)}
        places = {gate} | {place for box in boxes for place in box if box[0] != box[1]}
        for move in told:
            self.assertTrue(set(move[-2:]) <= places, (yard, move))
        self.assertEqual(crossings(rail, told), rail, yard)
        self.assertEqual(length(told), yard_least(gate, boxes), yard)
        return told

    def test_nothing_to_do(self):
        self.assertEqual(yard_tour(4, []), [])
        self.assertEqual(yard_tour(4, [(4, 4), (9, 9)]), [])
        self.assertEqual(yard_tour(-FAR, [(FAR, FAR)]), [])

    def test_one_box(self):
        self.assertEqual(yard_tour(0, [(0, 5)]), [("box", 0, 0, 5), ("go", 5, 0)])
        self.assertEqual(yard_tour(0, [(5, 0)]), [("go", 0, 5), ("box", 0, 5, 0)])
        self.assertEqual(yard_tour(0, [(3, 3), (5, 0)]), [("go", 0, 5), ("box", 1, 5, 0)])
        self.assertEqual(length(self.check_tour(0, [(7, 9)])), 18)

    def test_there_and_back(self):
        self.assertEqual(yard_tour(0, [(8, 0), (0, 8)]), [("box", 1, 0, 8), ("box", 0, 8, 0)])

    def test_a_box_is_set_down_on_its_way(self):
        boxes = [(0, 10), (10, 0), (4, 7), (7, 4)]
        told = self.check_tour(0, boxes)
        self.assertEqual(length(told), 2 * (10 + 3))
        # Whatever carries each box at one go is longer.
        self.assertIs(is_tour(0, 0, boxes, told), False)

    def test_numbers_of_boxes_are_no_places(self):
        # Those to be carried by others lie left and right of a box that does not go by them.
        apart = [(3, 4), (4, 3), (15, 17), (17, 15)]
        ways = [(6, 9), (9, 6), (0, 6), (6, 0), (9, 20), (20, 9)]
        for rest in (ways, list(reversed(ways)), ways[3:] + ways[:3]):
            for boxes in (rest + apart, apart + rest, [(0, 0)] * 40 + rest + apart):
                self.assertEqual(length(self.check_tour(0, boxes)), 2 * (20 + 1 + 2))

    def test_set_down_again_and_again(self):
        told = self.check_tour(0, nested_boxes())
        self.assertEqual(length(told), 2 * (200 + sum(200 - 2 * number for number in range(1, 35))))
        pairs = [(place, place + 1) for place in range(1, 68, 2)]
        boxes = [(0, 200)] + pairs + [(right, left) for left, right in pairs] + [(200, 0)]
        self.assertEqual(length(self.check_tour(0, boxes)), 2 * (200 + 34))
        self.assertEqual(length(self.check_tour(0, list(reversed(boxes)))), 2 * (200 + 34))

    def test_every_small_one(self):
        for yard in small_yards():
            self.check_tour(*yard)

    def test_mixed_ones(self):
        for reach in (4, 9, 30, 10 ** 12, FAR):
            for yard in mixed_yards(reach + 7, 200, 12, reach):
                self.check_tour(*yard)

    def test_boxes_there_and_back_hang_apart(self):
        # With each box there goes one back, so that what hangs together hangs by boxes set down alone.
        for gate, boxes in mixed_yards(22, 300, 12, 20):
            self.check_tour(gate, boxes + [(goal, start) for start, goal in boxes])

    def test_seventy_boxes_and_the_farthest_places(self):
        for yard in far_yards():
            self.check_tour(*yard)

    def test_no_tour_is_shorter(self):
        for gate, boxes in itertools.islice(small_yards(), 1, None, 5):
            told = self.check_tour(gate, boxes)
            self.assertEqual(length(told), yard_least_by_search(gate, boxes, [gate - 2, 2]), (gate, boxes))
        for gate, boxes in three_box_yards(23, 100):
            told = self.check_tour(gate, boxes)
            self.assertEqual(length(told), yard_least_by_search(gate, boxes, []), (gate, boxes))

    def test_kinds(self):
        for move in yard_tour(2, BOXES):
            self.assertIsInstance(move, tuple)
            self.assertIn(move[0], ("go", "box"))
            self.assertEqual(len(move), 3 if move[0] == "go" else 4)
            self.assertTrue(all(is_whole(part) for part in move[1:]))

    def test_what_is_no_yard(self):
        for yard in wrong_yards():
            with self.subTest(yard=yard):
                before = copy.deepcopy(yard)
                check_refused(self, errors.NoYard, yard_tour, *yard)
                self.assertEqual(repr(yard), repr(before))

    def test_each_list_is_new(self):
        for gate, boxes in [(2, list(BOXES)), (0, []), (4, [(4, 4)]), (0, nested_boxes()[:6])]:
            told = yard_tour(gate, boxes)
            kept = list(told)
            check_own_lists(self, [told, yard_tour(gate, boxes)], boxes)
            yard_tour(gate, boxes).append(None)
            boxes.append((20, 30))
            yard_tour(gate, boxes)
            self.assertEqual(told, kept)


if __name__ == "__main__":
    unittest.main()
