import copy
import itertools
import unittest

from hookrail import errors
from hookrail.rings import ring_least
from hookrail.ringtours import is_ring_tour, ring_length, ring_tour
from oracles import (
    leads_right_over, ring_edges_by_words, ring_forest_by_words, ring_lacks_by_words, ring_least_by_search, ring_stops,
    ring_weight_by_words, steps_walked,
)
from samples import (
    FAR, NO_PLACES, apart_rings, check_own_lists, check_refused, far_rings, is_whole, mixed_rings, small_rings, spoilt,
    wrong_rings,
)

# Box 0 goes to the right and box 3 to the left, both over the mark; box 2 stays.
BOXES = [(11, 3, 1), (8, 6, -1), (4, 4, -1), (2, 9, -1)]
TOUR = [
    ("go", 10, 11, 1), ("box", 0, 11, 3, 1), ("go", 3, 4, 1), ("box", 2, 4, 4, -1), ("go", 4, 2, -1),
    ("box", 3, 2, 9, -1), ("go", 9, 8, -1), ("box", 1, 8, 6, -1), ("go", 6, 5, -1),
]

NO_MOVES = [
    True, False, None, 0, 3, -1, "", "go", "box", "go 3 1", [], (), ("go",), ("box",), ("go", 3), ("box", 0), (1,),
    ("go", 3, 1), ("box", 0, 11, 3), ("go", 0, 3, 1, 1), ("box", 0, 0, 11, 3, 1), ("box", 0, 11, 3, 1, 1),
    ["go", 3, 1, 1], ["box", 0, 11, 3, 1], (("go", 3, 1, 1),), [("go", 3, 1, 1)], (3, 1, 1), (0, 11, 3, 1),
    (1, 3, 1, "go"), ("GO", 3, 1, 1), ("Box", 0, 11, 3, 1), ("go ", 3, 1, 1), ("", 3, 1, 1), ("carry", 0, 11, 3, 1),
    ("box", 3, 1, 1), ("go", 0, 11, 3, 1), (None, 3, 1, 1), (True, 3, 1, 1), (0, 3, 1, 1), (["go"], 3, 1, 1),
    (("go",), 3, 1, 1), ("go", (3, 1), 1), ("go", (3, 1, 1)), ("box", 0, (11, 3), 1), ("box", 0, (11, 3, 1)),
    ("go", 3, 3, 1), ("go", 3, 3, -1), ("box", "0", 11, 3, 1), ("box", None, 11, 3, 1), ("box", False, 11, 3, 1),
    ("box", True, 8, 6, -1), ("box", (0,), 11, 3, 1), ("box", [0], 11, 3, 1),
]


def does_ring(size, home, last, boxes, moves):
    """Whether well-made moves are a ring's tour, by following the hook and the boxes."""
    here = home
    left = dict(enumerate(boxes))
    for move in moves:
        if move[0] == "go":
            word, start, goal, way = move
            fits = start != goal and way * way == 1 and start in range(size) and goal in range(size)
        else:
            word, number, start, goal, way = move
            fits = left.pop(number, None) == (start, goal, way)
        if not fits or start != here:
            return False
        here = goal
    return here == last and not left


class IsRingTour(unittest.TestCase):
    """Promise 23."""

    def check(self, wanted, moves, size=12, home=10, last=5, boxes=BOXES):
        before = copy.deepcopy((boxes, moves))
        self.assertIs(is_ring_tour(size, home, last, boxes, moves), wanted, (size, home, last, boxes, moves))
        self.assertEqual(repr((boxes, moves)), repr(before))

    def test_a_tour(self):
        self.check(True, TOUR)

    def test_no_moves(self):
        self.check(True, [], 12, 4, 4, [])
        self.check(True, [], 1, 0, 0, [])
        self.check(False, [], 12, 4, 5, [])
        self.check(False, [], 12, 4, 4, [(4, 4, 1)])
        self.check(False, [], 1, 0, 0, [(0, 0, -1)])
        self.check(False, [], 12, 4, 4, [(4, 6, 1)])

    def test_other_tours(self):
        for ring, moves in [
            ((12, 2, 7, []), [("go", 2, 7, 1)]),
            ((12, 2, 7, []), [("go", 2, 7, -1)]),
            ((12, 2, 2, []), [("go", 2, 7, 1), ("go", 7, 2, 1)]),
            ((12, 2, 2, []), [("go", 2, 7, -1), ("go", 7, 2, 1)]),
            ((12, 1, 5, [(1, 5, 1)]), [("box", 0, 1, 5, 1)]),
            ((12, 1, 5, [(1, 5, -1)]), [("box", 0, 1, 5, -1)]),
            ((1, 0, 0, [(0, 0, 1), (0, 0, -1)]), [("box", 1, 0, 0, -1), ("box", 0, 0, 0, 1)]),
            ((12, 1, 5, [(1, 5, 1), (1, 5, -1)]), [("box", 1, 1, 5, -1), ("go", 5, 1, -1), ("box", 0, 1, 5, 1)]),
            ((12, 0, 0, [(0, 11, -1), (11, 0, 1)]), [("box", 0, 0, 11, -1), ("box", 1, 11, 0, 1)]),
            ((2, 0, 1, [(0, 1, 1)]), [("go", 0, 1, 1), ("go", 1, 0, 1), ("box", 0, 0, 1, 1)]),
            ((FAR, FAR - 1, 0, [(0, FAR - 1, 1)]), [
                ("go", FAR - 1, 0, 1), ("box", 0, 0, FAR - 1, 1), ("go", FAR - 1, 0, -1),
            ]),
        ]:
            self.check(True, moves, *ring)

    def test_a_go_to_a_place_that_is_no_stop_is_let_by(self):
        self.check(True, [("go", 2, 1, -1), ("go", 1, 0, 1), ("go", 0, 7, 1)], 12, 2, 7, [])
        self.check(True, [("go", 10, 7, -1), ("go", 7, 10, -1)] + TOUR)

    def test_a_go_either_way_is_let_by(self):
        for number, move in enumerate(TOUR):
            if move[0] == "go":
                self.check(True, TOUR[:number] + [move[:-1] + (-move[-1],)] + TOUR[number + 1:])

    def test_a_box_the_wrong_way(self):
        for number, move in enumerate(TOUR):
            if move[0] == "box":
                self.check(False, TOUR[:number] + [move[:-1] + (-move[-1],)] + TOUR[number + 1:])
        self.check(False, [("box", 0, 1, 5, -1)], 12, 1, 5, [(1, 5, 1)])
        self.check(False, [("box", 0, 1, 5, 1)], 12, 1, 5, [(1, 5, -1)])
        self.check(False, [("box", 0, 4, 4, -1)], 12, 4, 4, [(4, 4, 1)])
        self.check(False, [("box", 0, 0, 0, 1)], 1, 0, 0, [(0, 0, -1)])

    def test_a_way_that_is_none(self):
        for number, move in enumerate(TOUR):
            for way in NO_PLACES + [0, 2, -2, 13, -11, FAR, "+", "-", (1,), [-1]]:
                self.check(False, TOUR[:number] + [move[:-1] + (way,)] + TOUR[number + 1:])
        for way in NO_PLACES + [0, 2, -2, 3]:
            self.check(False, [("go", 2, 7, way)], 12, 2, 7, [])

    def test_a_move_left_out_or_doubled_or_exchanged(self):
        for number in range(len(TOUR)):
            self.check(False, TOUR[:number] + TOUR[number + 1:])
            self.check(False, TOUR[:number] + [TOUR[number]] + TOUR[number:])
        for one, other in itertools.combinations(range(len(TOUR)), 2):
            moves = list(TOUR)
            moves[one], moves[other] = moves[other], moves[one]
            self.check(False, moves)

    def test_a_wrong_beginning_or_end(self):
        self.check(False, TOUR, home=11)
        self.check(False, TOUR, home=9)
        self.check(False, TOUR, last=6)
        self.check(False, TOUR, home=5, last=10)
        self.check(False, [("go", 9, 11, 1)] + TOUR[1:])
        self.check(False, TOUR[:-1] + [("go", 6, 4, -1)])
        self.check(False, TOUR + [("go", 5, 10, 1)])
        self.check(False, [("go", 5, 10, 1)] + TOUR)
        self.check(False, [("go", 1, 5, 1)], 12, 1, 1, [])
        self.check(False, [("go", 5, 1, 1)], 12, 1, 1, [])

    def test_a_box_twice_or_never(self):
        self.check(False, TOUR + [("go", 5, 11, 1), ("box", 0, 11, 3, 1), ("go", 3, 5, 1)])
        self.check(False, TOUR[:4] + [("box", 2, 4, 4, -1)] + TOUR[4:])
        empty = [("go", 11, 3, 1) if move[:2] == ("box", 0) else move for move in TOUR]
        self.check(False, empty)
        # As many as there are, one of them twice in the place of another alike.
        alike = [("box", 0, 1, 5, 1), ("go", 5, 1, 1), ("box", 0, 1, 5, 1)]
        self.check(False, alike, 12, 1, 5, [(1, 5, 1), (1, 5, 1)])
        self.check(False, [("box", 1, 1, 1, 1)] * 2, 12, 1, 1, [(1, 1, 1), (1, 1, 1)])

    def test_a_box_from_or_to_elsewhere(self):
        self.check(False, [("box", 0, 0, 5, 1)], 12, 0, 5, [(1, 5, 1)])
        self.check(False, [("box", 0, 1, 6, 1)], 12, 1, 6, [(1, 5, 1)])
        self.check(False, [("box", 0, 5, 1, 1)], 12, 5, 1, [(1, 5, 1)])
        self.check(False, [("box", 0, 1, 3, 1), ("go", 3, 5, 1)], 12, 1, 5, [(1, 5, 1)])
        self.check(False, [("box", 0, 1, 3, 1), ("box", 0, 3, 5, 1)], 12, 1, 5, [(1, 5, 1)])
        self.check(False, [("box", 1, 1, 5, 1), ("box", 0, 5, 1, 1)], 12, 1, 1, [(1, 5, 1), (5, 1, 1)])

    def test_a_place_that_the_ring_has_not(self):
        for place in (-FAR, -12, -2, -1, 12, 13, 14, 22, FAR):
            for way, back in itertools.product((1, -1), repeat=2):
                self.check(False, [("go", 10, place, way), ("go", place, 10, back)] + TOUR)
                self.check(False, [("go", 10, place, way), ("go", place, 11, back)] + TOUR[1:])
                self.check(False, [("go", 0, place, way), ("go", place, 0, back)], 12, 0, 0, [])
        # The same places once round farther.
        for number, move in enumerate(TOUR):
            for place, more in itertools.product((-3, -2), (-12, 12)):
                other = list(move)
                other[place] += more
                self.check(False, TOUR[:number] + [tuple(other)] + TOUR[number + 1:])
        self.check(False, [("go", 0, 1, 1), ("go", 1, 0, 1)], 1, 0, 0, [])

    def test_a_number_of_no_box(self):
        for number in (-FAR, -5, -4, -3, -2, -1, 4, 5, 99, FAR):
            for place in (1, 3, 5, 7):
                word, box, start, goal, way = TOUR[place]
                self.check(False, TOUR[:place] + [(word, number, start, goal, way)] + TOUR[place + 1:])
            self.check(False, [("box", number, 10, 10, 1)] + TOUR)
        self.check(False, [("box", -1, 1, 5, 1)], 12, 1, 5, [(1, 5, 1)])
        self.check(False, [("box", 1, 1, 5, 1)], 12, 1, 5, [(1, 5, 1)])
        self.check(False, [("box", -1, 1, 5, 1), ("go", 5, 1, 1), ("box", 0, 1, 5, 1)], 12, 1, 5, [(1, 5, 1)] * 2)
        self.check(False, [("box", 0, 1, 1, 1)], 12, 1, 1, [])
        self.check(False, [("box", -1, 1, 1, 1)], 12, 1, 1, [])

    def test_a_go_that_stays(self):
        for number, way in itertools.product(range(len(TOUR) + 1), (1, -1)):
            here = TOUR[number][-3] if number < len(TOUR) else 5
            self.check(False, TOUR[:number] + [("go", here, here, way)] + TOUR[number:])
        self.check(False, [("go", 4, 4, 1)], 12, 4, 4, [])
        self.check(False, [("go", 0, 0, 1)], 1, 0, 0, [])

    def test_what_is_no_move(self):
        for wrong in NO_MOVES:
            for number in range(len(TOUR) + 1):
                self.check(False, TOUR[:number] + [wrong] + TOUR[number:])
                self.check(False, TOUR[:number] + [wrong] + TOUR[number + 1:])

    def test_what_is_of_another_form(self):
        for other in spoilt(TOUR):
            with self.subTest(other=other):
                self.check(False, other)

    def test_a_part_of_a_move_that_is_none(self):
        for number, move in enumerate(TOUR):
            for place in range(len(move)):
                for wrong in NO_PLACES + ["go", "box", ("go",), 7]:
                    if wrong != move[place] or isinstance(wrong, bool):
                        other = move[:place] + (wrong,) + move[place + 1:]
                        self.check(False, TOUR[:number] + [other] + TOUR[number + 1:])

    def test_truths_are_no_numbers(self):
        boxes = [(0, 1, 1), (1, 0, 1)]
        moves = [("box", 0, 0, 1, 1), ("box", 1, 1, 0, 1), ("go", 0, 1, 1), ("go", 1, 0, 1)]
        self.check(True, moves, 2, 0, 0, boxes)
        for number, move in enumerate(moves):
            for place in range(1, len(move)):
                other = move[:place] + (bool(move[place]),) + move[place + 1:]
                self.check(False, moves[:number] + [other] + moves[number + 1:], 2, 0, 0, boxes)

    def test_a_word_that_is_none(self):
        for word in ["carry", "Box", "GO", "box ", "go\n", "", None, True, 0, ("box",), ["go"], "go"]:
            self.check(False, [(word, 0, 1, 5, 1)], 12, 1, 5, [(1, 5, 1)])
            self.check(False, [("box", 0, 1, 1, 1), (word, 0, 1, 1, 1)], 12, 1, 1, [(1, 1, 1)])
        for word in ["carry", "Box", "GO", "go ", "box\n", "", None, True, 0, ("go",), ["box"], "box"]:
            self.check(False, [(word, 1, 5, 1)], 12, 1, 5, [])

    def test_the_whole_is_no_list(self):
        for thing in [tuple(TOUR), None, True, False, 0, 7, "", "go", (), TOUR[0], "\t\n ~", repr(TOUR), [[]], [()],
                      [TOUR], [None], [[[[[[]]]]]]]:
            self.check(False, thing)
            self.check(False, thing, 12, 3, 3, [])
            self.check(False, thing, 12, 3, 3, [(3, 3, 1)])

    def test_every_list_of_few_moves(self):
        places = range(3)
        candidates = [("go", *pair, way) for pair in itertools.product(places, places) for way in (1, -1)]
        kinds = [(0, 1, 1), (0, 1, -1), (1, 0, 1), (1, 1, -1)]
        candidates += [("box", number, *kind) for number in (0, 1) for kind in kinds]
        rings = [
            (2, 0, 0, [(0, 1, 1)]), (2, 0, 1, [(1, 0, 1), (0, 1, -1)]), (2, 1, 1, [(1, 1, -1), (1, 1, -1)]),
            (2, 1, 0, []), (3, 2, 2, []), (1, 0, 0, []),
        ]
        found = {True: 0, False: 0}
        for count in range(4):
            for moves in itertools.product(candidates, repeat=count):
                for ring in rings:
                    wanted = does_ring(*ring, moves)
                    found[wanted] += 1
                    self.assertIs(is_ring_tour(*ring, list(moves)), wanted, (ring, moves))
        self.assertGreater(found[True], 10)

    def test_every_short_way_of_the_hook(self):
        # The places that the hook comes to one behind the other, and how it comes to each.
        steps = list(itertools.product([0, 1, 2], [("go",), ("box", 0), ("box", 1)], [1, -1]))
        rings = [(3, 0, 1, [(0, 1, 1)]), (3, 0, 0, [(0, 1, -1), (2, 2, 1)]), (3, 0, 2, []), (2, 0, 0, [(1, 0, -1)])]
        found = {True: 0, False: 0}
        for count in range(4):
            for way in itertools.product(steps, repeat=count):
                places = [0] + [place for place, begun, turn in way]
                moves = []
                for (place, begun, turn), pair in zip(way, itertools.pairwise(places)):
                    moves.append(begun + pair + (turn,))
                for ring in rings:
                    wanted = does_ring(*ring, moves)
                    found[wanted] += 1
                    self.assertIs(is_ring_tour(*ring, moves), wanted, (ring, moves))
        self.assertGreater(found[True], 40)

    def test_long_tours(self):
        moves = [("go", 0, 1, 1), ("go", 1, 0, 1)] * 1000
        self.check(True, moves, 12, 0, 0, [])
        self.check(False, moves[1:], 12, 0, 0, [])
        self.check(False, moves[:-1] + [("go", 1, 0, 2)], 12, 0, 0, [])

    def test_what_is_no_ring(self):
        for ring in wrong_rings():
            for thing in ([], [("go", 0, 4, 1)], None, "", (), TOUR):
                before = copy.deepcopy((ring, thing))
                check_refused(self, errors.NoRing, is_ring_tour, *ring, thing)
                self.assertEqual(repr((ring, thing)), repr(before))


class RingLength(unittest.TestCase):
    """Promise 23."""

    def test_no_moves(self):
        self.assertEqual(ring_length(1, []), 0)
        self.assertEqual(ring_length(FAR, []), 0)

    def test_to_the_right_and_to_the_left(self):
        self.assertEqual(ring_length(12, [("go", 2, 7, 1)]), 5)
        self.assertEqual(ring_length(12, [("go", 2, 7, -1)]), 7)
        self.assertEqual(ring_length(12, [("box", 9, 2, 7, 1)]), 5)
        self.assertEqual(ring_length(12, [("box", 9, 2, 7, -1)]), 7)
        self.assertEqual(ring_length(12, TOUR), 1 + 4 + 1 + 0 + 2 + 5 + 1 + 2 + 1)

    def test_round_over_the_mark(self):
        self.assertEqual(ring_length(12, [("go", 11, 0, 1)]), 1)
        self.assertEqual(ring_length(12, [("go", 0, 11, -1)]), 1)
        self.assertEqual(ring_length(12, [("go", 0, 11, 1)]), 11)
        self.assertEqual(ring_length(12, [("box", 0, 7, 2, 1)]), 7)
        self.assertEqual(ring_length(12, [("box", 0, 7, 2, -1)]), 5)

    def test_boxes_that_stay(self):
        self.assertEqual(ring_length(12, [("box", 0, 4, 4, 1), ("box", 1, 4, 4, -1)]), 0)
        self.assertEqual(ring_length(1, [("box", 0, 0, 0, 1), ("box", 1, 0, 0, -1)]), 0)

    def test_moves_that_do_not_hang_together(self):
        self.assertEqual(ring_length(12, [("go", 0, 1, 1), ("box", 5, 10, 7, -1), ("go", 4, 2, 1)]), 1 + 3 + 10)

    def test_step_by_step(self):
        for size in range(1, 8):
            for start, goal, way in itertools.product(range(size), range(size), (1, -1)):
                wanted = steps_walked(size, start, goal, way)
                self.assertEqual(ring_length(size, [("box", 0, start, goal, way)]), wanted)
                if start != goal:
                    self.assertEqual(ring_length(size, [("go", start, goal, way)] * 3), 3 * wanted)

    def test_the_greatest_sizes(self):
        self.assertEqual(ring_length(FAR, [("go", 0, FAR - 1, 1), ("box", 0, FAR - 1, 0, 1)]), FAR)
        self.assertEqual(ring_length(FAR, [("go", 1, 0, 1)] * 2000), 2000 * (FAR - 1))

    def test_kind_and_what_is_handed_in(self):
        moves = list(TOUR)
        self.assertTrue(is_whole(ring_length(12, moves)))
        self.assertTrue(is_whole(ring_length(12, [])))
        self.assertEqual(moves, TOUR)


def first_best_turn(size, home, last, boxes):
    lacks = ring_lacks_by_words(size, home, last, boxes, 0)
    best = None
    for c in range(-1 - max(lacks), 2 - min(lacks)):
        weight = ring_weight_by_words(size, home, last, boxes, c)
        if best is None or weight < best[1]:
            best = (c, weight)
    return best


def wanted_crossings(size, home, last, boxes, c):
    """How often the told tour goes empty over each gap, to the right and to the left, by the words of promise 25."""
    edges = ring_edges_by_words(size, home, last, boxes)
    lacks = ring_lacks_by_words(size, home, last, boxes, c)
    wanted = {edge[:2]: [max(lack, 0), max(-lack, 0)] for edge, lack in zip(edges, lacks, strict=True)}
    for left, right, long in ring_forest_by_words(home, last, boxes, edges, lacks):
        wanted[(left, right)][0] += 1
        wanted[(left, right)][1] += 1
    return wanted


def empty_crossings(size, home, last, boxes, moves):
    told = {edge[:2]: [0, 0] for edge in ring_edges_by_words(size, home, last, boxes)}
    for move in moves:
        if move[0] == "go":
            word, start, goal, way = move
            low, high = (start, goal) if way == 1 else (goal, start)
            for gap in told:
                if leads_right_over(size, low, high, gap[0]):
                    told[gap][way == -1] += 1
    return told


class RingTour(unittest.TestCase):
    """Promises 4 and 25."""

    def check_tour(self, size, home, last, boxes):
        ring = (size, home, last, boxes)
        handed = list(boxes)
        told = ring_tour(size, home, last, boxes)
        self.assertEqual(boxes, handed)
        self.assertIsInstance(told, list)
        self.assertIs(is_ring_tour(size, home, last, boxes, told), True, ring)
        self.assertTrue(does_ring(size, home, last, boxes, told), ring)
        places = set(ring_stops(home, last, boxes))
        for move in told:
            self.assertTrue(set(move[-3:-1]) <= places, (ring, move))
        c, weight = first_best_turn(size, home, last, boxes)
        self.assertEqual(ring_length(size, told), weight, ring)
        self.assertEqual(ring_least(size, home, last, boxes), weight, ring)
        self.assertEqual(empty_crossings(*ring, told), wanted_crossings(*ring, c), ring)
        return told

    def test_nothing_to_do(self):
        self.assertEqual(ring_tour(12, 4, 4, []), [])
        self.assertEqual(ring_tour(1, 0, 0, []), [])
        self.assertEqual(ring_tour(FAR, FAR - 1, FAR - 1, []), [])

    def test_only_to_go(self):
        self.assertEqual(ring_tour(12, 2, 7, []), [("go", 2, 7, 1)])
        self.assertEqual(ring_tour(12, 7, 2, []), [("go", 7, 2, -1)])
        self.assertEqual(ring_tour(12, 1, 11, []), [("go", 1, 11, -1)])
        self.assertEqual(ring_tour(12, 11, 1, []), [("go", 11, 1, 1)])

    def test_the_first_of_turns_alike(self):
        # Half round: for -1 to the left, for 0 to the right, alike in length.
        self.assertEqual(ring_tour(12, 0, 6, []), [("go", 0, 6, -1)])
        self.assertEqual(ring_tour(12, 6, 0, []), [("go", 6, 0, -1)])
        # Once round to the left, there and back, or once round to the right.
        self.assertEqual(ring_tour(12, 0, 0, [(6, 6, 1)]), [("go", 0, 6, -1), ("box", 0, 6, 6, 1), ("go", 6, 0, -1)])

    def test_boxes_that_stay(self):
        self.assertEqual(ring_tour(12, 4, 4, [(4, 4, -1)]), [("box", 0, 4, 4, -1)])
        self.assertEqual(ring_tour(1, 0, 0, [(0, 0, 1)]), [("box", 0, 0, 0, 1)])
        self.check_tour(1, 0, 0, [(0, 0, 1), (0, 0, -1), (0, 0, 1)])
        self.check_tour(12, 4, 4, [(4, 4, 1), (4, 4, -1), (0, 0, 1), (9, 9, -1)])

    def test_one_box(self):
        self.assertEqual(ring_tour(12, 1, 5, [(1, 5, 1)]), [("box", 0, 1, 5, 1)])
        self.assertEqual(ring_tour(12, 1, 5, [(1, 5, -1)]), [("box", 0, 1, 5, -1)])
        self.assertEqual(ring_tour(12, 5, 1, [(1, 5, 1)]), [("go", 5, 1, -1), ("box", 0, 1, 5, 1), ("go", 5, 1, -1)])
        self.assertEqual(ring_tour(12, 1, 1, [(1, 9, 1)]), [("box", 0, 1, 9, 1), ("go", 9, 1, 1)])

    def test_two_stops_and_a_gap_of_the_forest(self):
        # Of the two gaps between 2 and 5 the shorter one is gone there and back.
        told = self.check_tour(12, 2, 2, [(5, 5, 1)])
        self.assertEqual(told, [("go", 2, 5, 1), ("box", 0, 5, 5, 1), ("go", 5, 2, -1)])
        told = self.check_tour(12, 2, 2, [(11, 11, 1)])
        self.assertEqual(told, [("go", 2, 11, -1), ("box", 0, 11, 11, 1), ("go", 11, 2, 1)])

    def test_the_cheaper_of_several_gaps(self):
        # What goes either way between 4 and 7 hangs apart from 10 and 0, where the hook begins: (7, 10) is the shorter.
        told = self.check_tour(12, 10, 10, [(4, 7, 1), (7, 4, -1), (10, 0, 1), (0, 10, -1)])
        self.assertEqual([move for move in told if move[0] == "go"], [("go", 10, 7, -1), ("go", 7, 10, 1)])
        # To what goes either way round over the mark: by the shorter gap, and by the first of two alike.
        told = self.check_tour(13, 5, 5, [(9, 2, 1), (2, 9, -1)])
        self.assertEqual([move for move in told if move[0] == "go"], [("go", 5, 2, -1), ("go", 2, 5, 1)])
        told = self.check_tour(12, 5, 5, [(8, 2, 1), (2, 8, -1)])
        self.assertEqual([move for move in told if move[0] == "go"], [("go", 5, 2, -1), ("go", 2, 5, 1)])

    def test_every_small_one(self):
        for ring in small_rings():
            self.check_tour(*ring)

    def test_mixed_ones(self):
        for size in (4, 7, 12, 30, 10 ** 12, FAR):
            for ring in itertools.chain(mixed_rings(size + 1, 60, 9, size), apart_rings(size + 1, 60, size)):
                self.check_tour(*ring)

    def test_seventy_boxes_and_the_greatest_sizes(self):
        for ring in far_rings():
            self.check_tour(*ring)

    def test_no_tour_is_shorter(self):
        for ring in itertools.islice(small_rings(), 1, None, 2):
            self.assertEqual(ring_length(ring[0], ring_tour(*ring)), ring_least_by_search(*ring), ring)
        for size in (4, 6, 9, 14):
            for ring in itertools.chain(mixed_rings(size, 60, 4, size), apart_rings(size, 12, size)):
                self.assertEqual(ring_length(size, ring_tour(*ring)), ring_least_by_search(*ring), ring)

    def test_kinds(self):
        for move in ring_tour(12, 10, 5, BOXES):
            self.assertIsInstance(move, tuple)
            self.assertIn(move[0], ("go", "box"))
            self.assertEqual(len(move), 4 if move[0] == "go" else 5)
            self.assertTrue(all(is_whole(part) for part in move[1:]))

    def test_what_is_no_ring(self):
        for ring in wrong_rings():
            with self.subTest(ring=ring):
                before = copy.deepcopy(ring)
                check_refused(self, errors.NoRing, ring_tour, *ring)
                self.assertEqual(repr(ring), repr(before))

    def test_each_list_is_new(self):
        for boxes in [list(BOXES), [], [(4, 4, 1)]]:
            told = ring_tour(12, 4, 4, boxes)
            kept = list(told)
            check_own_lists(self, [told, ring_tour(12, 4, 4, boxes)], boxes)
            ring_tour(12, 4, 4, boxes).append(None)
            boxes.append((1, 2, 1))
            ring_tour(12, 4, 4, boxes)
            self.assertEqual(told, kept)


if __name__ == "__main__":
    unittest.main()
