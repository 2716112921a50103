import copy
import itertools
import unittest

from hookrail import errors
from hookrail.rails import gaps, stops
from hookrail.tours import is_tour, length, tour
from oracles import least_by_search, net_lacks, spread
from samples import (
    FAR, NO_PLACES, check_own_lists, check_refused, far_errands, is_whole, mixed_errands, small_errands,
    wrong_errands,
)

BOXES = [(1, 5), (-7, 2), (4, 4)]
TOUR = [
    ("go", 3, 1), ("box", 0, 1, 5), ("go", 5, 4), ("box", 2, 4, 4), ("go", 4, -7), ("box", 1, -7, 2), ("go", 2, -9),
]

NO_MOVES = [
    True, False, None, 0, 3, -1, "", "go", "box", "go 3 1", [], (), ("go",), ("box",), ("go", 3), ("box", 0),
    ("go", 3, 1, 1), ("go", 0, 3, 1), ("box", 0, 1), ("box", 1, 5), ("box", 0, 1, 5, 5), ("box", 0, 0, 1, 5),
    ["go", 3, 1], ["box", 0, 1, 5], (("go", 3, 1),), [("go", 3, 1)], (3, 1), (0, 1, 5), (3, 1, "go"), ("GO", 3, 1),
    ("Box", 0, 1, 5), ("go ", 3, 1), ("", 3, 1), ("carry", 0, 1, 5), ("box", 3, 1), ("go", 1, 5), ("g", "o", 3, 1),
    (None, 3, 1), (True, 3, 1), (0, 3, 1), (["go"], 3, 1), (("go",), 3, 1), ("go", (3, 1)), ("box", 0, (1, 5)),
    ("go", 3, 3), ("box", "0", 1, 5), ("box", None, 1, 5), ("box", False, 1, 5), ("box", True, -7, 2),
    ("box", (0,), 1, 5), ("box", [0], 1, 5),
]


def does_errand(home, last, boxes, moves):
    """Whether well-made moves are a tour, by following the hook and the boxes."""
    here = home
    left = dict(enumerate(boxes))
    for move in moves:
        if move[0] == "go":
            word, start, goal = move
            fits = start != goal
        else:
            word, number, start, goal = move
            fits = left.pop(number, None) == (start, goal)
        if not fits or start != here:
            return False
        here = goal
    return here == last and not left


class IsTour(unittest.TestCase):
    """Promise 15."""

    def test_a_tour(self):
        self.assertIs(is_tour(3, -9, BOXES, TOUR), True)

    def test_no_moves(self):
        self.assertIs(is_tour(4, 4, [], []), True)
        self.assertIs(is_tour(4, 5, [], []), False)
        self.assertIs(is_tour(4, 4, [(4, 4)], []), False)
        self.assertIs(is_tour(4, 4, [(4, 6)], []), False)

    def test_other_tours(self):
        for errand, moves in [
            ((2, 7, []), [("go", 2, 7)]),
            ((2, 2, []), [("go", 2, 7), ("go", 7, 2)]),
            ((1, 5, [(1, 5)]), [("box", 0, 1, 5)]),
            ((1, 1, [(1, 1)]), [("box", 0, 1, 1)]),
            ((1, 1, [(1, 1), (1, 1)]), [("box", 1, 1, 1), ("box", 0, 1, 1)]),
            ((1, 5, [(1, 5), (1, 5)]), [("box", 1, 1, 5), ("go", 5, 1), ("box", 0, 1, 5)]),
            ((0, 0, [(0, -3), (-3, 0)]), [("box", 0, 0, -3), ("box", 1, -3, 0)]),
            ((-FAR, FAR, [(FAR, -FAR)]), [("go", -FAR, FAR), ("box", 0, FAR, -FAR), ("go", -FAR, FAR)]),
        ]:
            with self.subTest(errand=errand):
                self.assertIs(is_tour(*errand, moves), True)

    def test_a_go_to_a_place_that_is_no_stop_is_let_by(self):
        self.assertIs(is_tour(2, 7, [], [("go", 2, 100), ("go", 100, -4), ("go", -4, 7)]), True)
        self.assertIs(is_tour(3, -9, BOXES, [("go", 3, 77), ("go", 77, 3)] + TOUR), True)
        self.assertIs(is_tour(2, 2, [], [("go", 2, 10 * FAR), ("go", 10 * FAR, 2)]), True)

    def test_a_move_left_out(self):
        for number in range(len(TOUR)):
            # Without the box that stays the moves still hang together, yet the box is never carried.
            self.assertIs(is_tour(3, -9, BOXES, TOUR[:number] + TOUR[number + 1:]), False, number)

    def test_a_move_doubled(self):
        for number in range(len(TOUR)):
            self.assertIs(is_tour(3, -9, BOXES, TOUR[:number] + [TOUR[number]] + TOUR[number:]), False, number)

    def test_moves_exchanged(self):
        for one, other in itertools.combinations(range(len(TOUR)), 2):
            moves = list(TOUR)
            moves[one], moves[other] = moves[other], moves[one]
            self.assertIs(is_tour(3, -9, BOXES, moves), False, (one, other))

    def test_a_wrong_beginning_or_end(self):
        self.assertIs(is_tour(4, -9, BOXES, TOUR), False)
        self.assertIs(is_tour(3, -8, BOXES, TOUR), False)
        self.assertIs(is_tour(-9, 3, BOXES, TOUR), False)
        self.assertIs(is_tour(3, -9, BOXES, [("go", 4, 1)] + TOUR[1:]), False)
        self.assertIs(is_tour(3, -9, BOXES, TOUR[:-1] + [("go", 2, -8)]), False)
        self.assertIs(is_tour(3, -9, BOXES, TOUR + [("go", -9, 3)]), False)
        self.assertIs(is_tour(3, -9, BOXES, [("go", -9, 3)] + TOUR), False)

    def test_a_box_twice_or_never(self):
        again = [("go", -9, 1), ("box", 0, 1, 5), ("go", 5, -9)]
        self.assertIs(is_tour(3, -9, BOXES, TOUR + again), False)
        self.assertIs(is_tour(3, -9, BOXES, TOUR[:4] + [("box", 2, 4, 4)] + TOUR[4:]), False)
        empty = [("go", 1, 5) if move[:2] == ("box", 0) else move for move in TOUR]
        self.assertIs(is_tour(3, -9, BOXES, empty), False)
        # As many as there are, one of them twice in the place of another alike.
        alike = [("box", 0, 1, 5), ("go", 5, 1), ("box", 0, 1, 5)]
        self.assertIs(is_tour(1, 5, [(1, 5), (1, 5)], alike), False)
        self.assertIs(is_tour(1, 1, [(1, 1), (1, 1)], [("box", 1, 1, 1), ("box", 1, 1, 1)]), False)

    def test_a_box_from_or_to_a_wrong_place(self):
        self.assertIs(is_tour(0, 5, [(1, 5)], [("box", 0, 0, 5)]), False)
        self.assertIs(is_tour(1, 6, [(1, 5)], [("box", 0, 1, 6)]), False)
        self.assertIs(is_tour(5, 1, [(1, 5)], [("box", 0, 5, 1)]), False)
        self.assertIs(is_tour(1, 5, [(1, 5)], [("box", 0, 1, 3), ("go", 3, 5)]), False)
        self.assertIs(is_tour(1, 5, [(1, 5)], [("box", 0, 1, 3), ("box", 0, 3, 5)]), False)
        # The numbers of two boxes exchanged.
        self.assertIs(is_tour(1, 1, [(1, 5), (5, 1)], [("box", 1, 1, 5), ("box", 0, 5, 1)]), False)

    def test_a_number_of_no_box(self):
        for number in (-FAR, -4, -3, -2, -1, 3, 4, 99, FAR):
            for box in BOXES + [(0, 1), (3, 3)]:
                moves = [("go", 3, box[0])] * (box[0] != 3)
                moves += [("box", number, box[0], box[1])]
                moves += [("go", box[1], 3)] * (box[1] != 3)
                self.assertIs(is_tour(3, -9, BOXES, moves + TOUR), False, number)
        self.assertIs(is_tour(1, 5, [(1, 5)], [("box", -1, 1, 5)]), False)
        self.assertIs(is_tour(1, 5, [(1, 5)], [("box", 1, 1, 5)]), False)
        self.assertIs(is_tour(1, 5, [(1, 5), (1, 5)], [("box", -1, 1, 5), ("go", 5, 1), ("box", 0, 1, 5)]), False)
        self.assertIs(is_tour(1, 1, [], [("box", 0, 1, 1)]), False)
        self.assertIs(is_tour(1, 1, [], [("box", -1, 1, 1)]), False)

    def test_a_go_that_stays(self):
        for number in range(len(TOUR) + 1):
            here = TOUR[number][-2] if number < len(TOUR) else -9
            self.assertIs(is_tour(3, -9, BOXES, TOUR[:number] + [("go", here, here)] + TOUR[number:]), False)
        self.assertIs(is_tour(4, 4, [], [("go", 4, 4)]), False)

    def test_what_is_no_move(self):
        for wrong in NO_MOVES:
            for number in range(len(TOUR) + 1):
                with self.subTest(wrong=wrong, number=number):
                    self.assertIs(is_tour(3, -9, BOXES, TOUR[:number] + [wrong] + TOUR[number:]), False)
                    self.assertIs(is_tour(3, -9, BOXES, TOUR[:number] + [wrong] + TOUR[number + 1:]), False)

    def test_a_word_that_is_none_where_all_else_fits(self):
        for word in ["carry", "Box", "GO", "box ", "go\n", "", None, True, 0, ("box",), ["go"], "go"]:
            for moves in [[("box", 0, 1, 1), (word, 0, 1, 1)], [(word, 0, 1, 1), ("box", 0, 1, 1)], [(word, 0, 1, 1)]]:
                self.assertIs(is_tour(1, 1, [(1, 1)], moves), False, moves)
        for word in ["carry", "Box", "GO", "go ", "box\n", "", None, True, 0, ("go",), ["box"], "box"]:
            self.assertIs(is_tour(1, 5, [], [(word, 1, 5)]), False, word)
            self.assertIs(is_tour(1, 1, [(1, 5)], [("box", 0, 1, 5), (word, 5, 1)]), False, word)

    def test_a_part_of_a_move_that_is_none(self):
        for number, move in enumerate(TOUR):
            for place in range(len(move)):
                for wrong in NO_PLACES + ["go", "box", ("go",), 77]:
                    if wrong != move[place]:
                        other = move[:place] + (wrong,) + move[place + 1:]
                        moves = TOUR[:number] + [other] + TOUR[number + 1:]
                        with self.subTest(other=other):
                            self.assertIs(is_tour(3, -9, BOXES, moves), False)

    def test_truths_are_no_numbers(self):
        boxes = [(0, 1), (1, 0)]
        moves = [("box", 0, 0, 1), ("box", 1, 1, 0), ("go", 0, 1), ("go", 1, 0)]
        self.assertIs(is_tour(0, 0, boxes, moves), True)
        for number, move in enumerate(moves):
            for place in range(1, len(move)):
                other = move[:place] + (bool(move[place]),) + move[place + 1:]
                self.assertIs(is_tour(0, 0, boxes, moves[:number] + [other] + moves[number + 1:]), False, other)

    def test_lists_in_the_place_of_tuples(self):
        for number, move in enumerate(TOUR):
            self.assertIs(is_tour(3, -9, BOXES, TOUR[:number] + [list(move)] + TOUR[number + 1:]), False, number)
        self.assertIs(is_tour(3, -9, BOXES, [list(move) for move in TOUR]), False)

    def test_a_part_more_or_fewer(self):
        for number, move in enumerate(TOUR):
            for other in [move[:-1], move[1:], move + (move[-1],), move + (None,), move[:1] + move, (move,)]:
                self.assertIs(is_tour(3, -9, BOXES, TOUR[:number] + [other] + TOUR[number + 1:]), False, other)

    def test_the_whole_is_no_list(self):
        for thing in [tuple(TOUR), None, True, False, 0, 7, "", "go", (), TOUR[0], "\t\n ~", repr(TOUR)]:
            with self.subTest(thing=thing):
                self.assertIs(is_tour(3, -9, BOXES, thing), False)
                self.assertIs(is_tour(3, 3, [], thing), False)
        self.assertIs(is_tour(3, -9, BOXES, [TOUR]), False)
        self.assertIs(is_tour(3, 3, [], [[]]), False)
        self.assertIs(is_tour(3, 3, [], [[[[[[]]]]]]), False)

    def test_every_list_of_few_moves(self):
        places = range(3)
        candidates = [("go", one, other) for one, other in itertools.product(places, places)]
        candidates += [("box", number, *pair) for number in (0, 1) for pair in [(0, 1), (1, 0), (1, 1), (2, 0)]]
        errands = [(0, 0, [(0, 1)]), (0, 1, [(2, 0), (0, 1)]), (1, 1, [(1, 1), (1, 1)]), (2, 1, []), (2, 2, [])]
        found = {True: 0, False: 0}
        for count in range(4):
            for moves in itertools.product(candidates, repeat=count):
                for errand in errands:
                    wanted = does_errand(*errand, moves)
                    found[wanted] += 1
                    self.assertIs(is_tour(*errand, list(moves)), wanted, (errand, moves))
        self.assertGreater(found[True], 10)

    def test_long_tours(self):
        moves = [("go", 0, 1), ("go", 1, 0)] * 1000
        self.assertIs(is_tour(0, 0, [], moves), True)
        self.assertIs(is_tour(0, 0, [], moves[1:]), False)

    def test_what_is_no_errand(self):
        for errand in wrong_errands():
            for thing in ([], [("go", 0, 5)], None, "", (), TOUR):
                before = copy.deepcopy((errand, thing))
                check_refused(self, errors.NoErrand, is_tour, *errand, thing)
                self.assertEqual(repr((errand, thing)), repr(before))

    def test_nothing_handed_in_is_changed(self):
        for thing in (TOUR, TOUR[:3], [list(move) for move in TOUR], NO_MOVES):
            boxes = list(BOXES)
            before = copy.deepcopy(thing)
            is_tour(3, -9, boxes, thing)
            self.assertEqual(repr(thing), repr(before))
            self.assertEqual(boxes, BOXES)


class Length(unittest.TestCase):
    """Promise 15."""

    def test_no_moves(self):
        self.assertEqual(length([]), 0)

    def test_either_way(self):
        self.assertEqual(length([("go", 2, 7)]), 5)
        self.assertEqual(length([("go", 7, 2)]), 5)
        self.assertEqual(length([("go", -3, 4), ("go", 4, -3)]), 14)
        self.assertEqual(length([("box", 9, 2, 7)]), 5)
        self.assertEqual(length([("box", 9, 7, 2)]), 5)
        self.assertEqual(length([("box", 9, 7, 7)]), 0)
        self.assertEqual(length(TOUR), 2 + 4 + 1 + 0 + 11 + 9 + 11)

    def test_moves_that_do_not_hang_together(self):
        self.assertEqual(length([("go", 0, 1), ("box", 5, 10, 7), ("go", -4, -6)]), 6)

    def test_farthest_places(self):
        self.assertEqual(length([("go", -FAR, FAR), ("box", 0, FAR, 1 - FAR)]), 4 * FAR - 1)
        self.assertEqual(length([("go", -FAR, FAR), ("box", 0, FAR, -FAR)] * 1000), 4000 * FAR)

    def test_kind_and_what_is_handed_in(self):
        moves = list(TOUR)
        self.assertTrue(is_whole(length(moves)))
        self.assertTrue(is_whole(length([])))
        self.assertEqual(moves, TOUR)


def wanted_crossings(home, last, boxes):
    """How often the told tour goes empty over each gap, to the right and to the left, by the words of promise 16."""
    rail = gaps(home, last, boxes)
    lack_of = dict(zip(rail, net_lacks(home, last, boxes)))
    wanted = {gap: [max(lack, 0), max(-lack, 0)] for gap, lack in lack_of.items()}
    marks = {place: place for place in stops(home, last, boxes)}
    spread(marks, boxes + [(home, last)] + [gap for gap in rail if lack_of[gap]])
    for gap in sorted(rail, key=lambda gap: gap[1] - gap[0]):
        if marks[gap[0]] != marks[gap[1]]:
            gone, kept = marks[gap[0]], marks[gap[1]]
            marks = {place: kept if mark == gone else mark for place, mark in marks.items()}
            wanted[gap][0] += 1
            wanted[gap][1] += 1
    return wanted


def empty_crossings(rail, moves):
    told = {gap: [0, 0] for gap in rail}
    for move in moves:
        if move[0] == "go":
            low, high = sorted(move[1:])
            for gap in rail:
                if low <= gap[0] and gap[1] <= high:
                    told[gap][move[1] > move[2]] += 1
    return told


class Tour(unittest.TestCase):
    """Promise 16."""

    def check_tour(self, home, last, boxes):
        errand = (home, last, boxes)
        handed = list(boxes)
        told = tour(home, last, boxes)
        self.assertEqual(boxes, handed)
        self.assertIsInstance(told, list)
        self.assertIs(is_tour(home, last, boxes, told), True, errand)
        self.assertTrue(does_errand(home, last, boxes, told), errand)
        places = set(stops(home, last, boxes))
        for move in told:
            self.assertTrue(set(move[-2:]) <= places, (errand, move))
        rail = gaps(home, last, boxes)
        self.assertEqual(empty_crossings(rail, told), wanted_crossings(home, last, boxes), errand)
        return told

    def test_nothing_to_do(self):
        self.assertEqual(tour(4, 4, []), [])
        self.assertEqual(tour(-FAR, -FAR, []), [])

    def test_only_to_go(self):
        self.assertEqual(tour(2, 7, []), [("go", 2, 7)])
        self.assertEqual(tour(7, 2, []), [("go", 7, 2)])

    def test_boxes_that_stay(self):
        self.assertEqual(tour(4, 4, [(4, 4)]), [("box", 0, 4, 4)])
        self.assertEqual(tour(0, 0, [(6, 6)]), [("go", 0, 6), ("box", 0, 6, 6), ("go", 6, 0)])
        self.check_tour(4, 4, [(4, 4), (4, 4), (-1, -1), (9, 9)])
        self.check_tour(2, 5, [(3, 3), (3, 3), (-1, -1), (9, 9)])

    def test_one_box(self):
        self.assertEqual(tour(1, 5, [(1, 5)]), [("box", 0, 1, 5)])
        self.assertEqual(tour(5, 1, [(1, 5)]), [("go", 5, 1), ("box", 0, 1, 5), ("go", 5, 1)])
        self.assertEqual(tour(1, 1, [(5, 1)]), [("go", 1, 5), ("box", 0, 5, 1)])

    def test_there_and_back(self):
        self.assertEqual(tour(0, 0, [(8, 0), (0, 8)]), [("box", 1, 0, 8), ("box", 0, 8, 0)])

    def test_a_gap_of_the_forest(self):
        # Boxes go either way from 5 to 9, so the hook goes over (0, 5) alone, to them and back.
        told = self.check_tour(0, 0, [(5, 9), (9, 5)])
        self.assertEqual(told, [("go", 0, 5), ("box", 0, 5, 9), ("box", 1, 9, 5), ("go", 5, 0)])

    def test_the_cheaper_of_two_gaps(self):
        # The boxes tie 0 to 10 and 4 to 7, so that one of the outer gaps is enough: the shorter one, (7, 10).
        told = self.check_tour(0, 0, [(0, 10), (10, 0), (4, 7), (7, 4)])
        crossings = empty_crossings([(0, 4), (4, 7), (7, 10)], told)
        self.assertEqual(crossings, {(0, 4): [0, 0], (4, 7): [0, 0], (7, 10): [1, 1]})
        # Of outer gaps alike in length it is the left one.
        told = self.check_tour(0, 0, [(0, 11), (11, 0), (4, 7), (7, 4)])
        crossings = empty_crossings([(0, 4), (4, 7), (7, 11)], told)
        self.assertEqual(crossings, {(0, 4): [1, 1], (4, 7): [0, 0], (7, 11): [0, 0]})

    def test_many_boxes_one_way(self):
        told = self.check_tour(0, 0, [(0, 4)] * 70)
        self.assertEqual(length(told), 2 * 70 * 4)

    def test_every_small_one(self):
        for errand in small_errands():
            self.check_tour(*errand)

    def test_mixed_ones(self):
        for reach in (4, 30, 10 ** 12, FAR):
            for errand in mixed_errands(reach, 150, 8, reach):
                self.check_tour(*errand)

    def test_seventy_boxes_and_the_farthest_places(self):
        for errand in far_errands():
            self.check_tour(*errand)

    def test_no_tour_is_shorter(self):
        for errand in itertools.chain(itertools.islice(small_errands(), 0, None, 7), mixed_errands(4, 150, 5, 25)):
            self.assertEqual(length(tour(*errand)), least_by_search(*errand), errand)

    def test_kinds(self):
        for move in tour(3, -9, BOXES):
            self.assertIsInstance(move, tuple)
            self.assertIn(move[0], ("go", "box"))
            self.assertEqual(len(move), 3 if move[0] == "go" else 4)
            self.assertTrue(all(is_whole(part) for part in move[1:]))

    def test_what_is_no_errand(self):
        for errand in wrong_errands():
            with self.subTest(errand=errand):
                before = copy.deepcopy(errand)
                check_refused(self, errors.NoErrand, tour, *errand)
                self.assertEqual(repr(errand), repr(before))

    def test_each_list_is_new(self):
        for home, last, boxes in [(3, -9, list(BOXES)), (0, 0, []), (1, 5, [(1, 5)])]:
            told = tour(home, last, boxes)
            kept = list(told)
            check_own_lists(self, [told, tour(home, last, boxes)], boxes)
            tour(home, last, boxes).append(("go", 0, 1))
            boxes.append((20, 30))
            tour(home, last, boxes)
            self.assertEqual(told, kept)


if __name__ == "__main__":
    unittest.main()
