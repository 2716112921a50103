import copy
import itertools
import random
import unittest

from hookrail import errors
from hookrail.rails import gaps, stops
from hookrail.reasons import is_reason, least, reason, weight
from hookrail.tours import is_tour, length, tour
from oracles import counts_by_words, least_by_search, levels_by_words, parts_by, ties_below, weight_by_words
from samples import (
    FAR, check_own_lists, check_refused, far_errands, is_whole, mixed_errands, small_errands, spoilt, wrong_errands,
)

# Two pairs of boxes there and back, which hang apart from home and from one another.
ERRAND = (0, -4, [(5, 9), (9, 5), (20, 25), (25, 20)])
COUNTS = [(-4, 0, 0, 0), (0, 5, 0, 0), (5, 9, 1, 1), (9, 20, 0, 0), (20, 25, 1, 1)]
LEVELS = [(5, [[-4, 0], [5, 9], [20, 25]]), (11, [[-4, 0, 5, 9], [20, 25]])]

# All numbers of the reason for this one are 0, 1 and 2, so that a truth would be alike to most of them.
TINY = (0, 0, [(1, 2), (2, 1)])
TINY_REASON = ([(0, 1, 0, 0), (1, 2, 1, 1)], [(1, [[0], [1, 2]])])


def errands():
    yield from itertools.islice(small_errands(), 0, None, 3)
    for reach in (4, 30, 10 ** 12, FAR):
        yield from mixed_errands(reach + 5, 60, 8, reach)
    yield from far_errands()


def partitions(things):
    if not things:
        yield []
        return
    for rest in partitions(things[1:]):
        yield [[things[0]]] + rest
        for number, part in enumerate(rest):
            yield rest[:number] + [[things[0]] + part] + rest[number + 1:]


def is_level_by_words(home, last, boxes, bound, parts):
    if bound < 1:
        return False
    ties = ties_below(home, last, boxes, bound)
    return all(any(one in part and other in part for part in parts) for one, other in ties)


def some_reason(chance, home, last, boxes):
    """A reason that no one has told: any bounds, any groups that hold together what they must, in any order."""
    rail = gaps(home, last, boxes)
    # The bounds about the lengths of gaps are the ones that let the most groups by.
    near = [right - left + more for left, right in rail for more in (-1, 0, 1)] + [1, 2, 5]
    bounds = sorted({bound for bound in chance.choices(near, k=chance.randint(0, 6)) if bound >= 1})
    places = stops(home, last, boxes)
    told = []
    for bound in bounds:
        more = [tuple(chance.choices(places, k=2)) for _ in range(chance.choice([0, 0, 1, 3]))]
        parts = parts_by(places, ties_below(home, last, boxes, bound) + more)
        chance.shuffle(parts)
        for part in parts:
            chance.shuffle(part)
        told.append((bound, parts))
    return (counts_by_words(home, last, boxes), told)


def some_tour(chance, home, last, boxes):
    """A tour that carries the boxes in any order, and goes elsewhere at times."""
    moves = []
    here = home
    order = list(range(len(boxes)))
    chance.shuffle(order)
    for start, box in [(boxes[number][0], number) for number in order] + [(last, None)]:
        for there in [here + chance.randint(-9, 9), start] if chance.random() < 0.2 else [start]:
            if there != here:
                moves.append(("go", here, there))
                here = there
        if box is not None:
            moves.append(("box", box, *boxes[box]))
            here = boxes[box][1]
    return moves


class IsReason(unittest.TestCase):
    """Promise 17."""

    def check(self, wanted, counts, levels):
        thing = (counts, levels)
        before = copy.deepcopy(thing)
        self.assertIs(is_reason(*ERRAND, thing), wanted, thing)
        self.assertEqual(repr(thing), repr(before))
        if not wanted:
            check_refused(self, errors.NoReason, weight, *ERRAND, thing)

    def test_the_told_reason(self):
        self.check(True, COUNTS, LEVELS)

    def test_one_stop_alone(self):
        self.assertIs(is_reason(4, 4, [], ([], [])), True)
        self.assertIs(is_reason(4, 4, [], ([], [(1, [[4]]), (7, [[4]])])), True)
        self.assertIs(is_reason(4, 4, [], ([], [(1, [[5]])])), False)
        self.assertIs(is_reason(4, 4, [], ([], [(1, [])])), False)
        self.assertIs(is_reason(4, 4, [], ([(4, 4, 0, 0)], [])), False)
        self.assertIs(is_reason(4, 4, [(4, 4)], ([], [(1, [[4]])])), True)

    def test_groups_and_stops_in_any_order(self):
        self.check(True, COUNTS, [(5, [[25, 20], [0, -4], [9, 5]]), (11, [[20, 25], [9, -4, 5, 0]])])
        for parts in itertools.permutations(LEVELS[0][1]):
            self.check(True, COUNTS, [(5, list(parts))])
        for part in itertools.permutations(LEVELS[1][1][0]):
            self.check(True, COUNTS, [(11, [list(part), [25, 20]])])

    def test_no_levels_and_others(self):
        self.check(True, COUNTS, [])
        self.check(True, COUNTS, LEVELS[:1])
        self.check(True, COUNTS, LEVELS[1:])
        self.check(True, COUNTS, [(1, LEVELS[0][1]), (2, LEVELS[0][1]), (4, LEVELS[0][1]), (5, LEVELS[0][1])])
        self.check(True, COUNTS, LEVELS + [(12, [[-4, 0, 5, 9, 20, 25]]), (FAR, [[-4, 0, 5, 9, 20, 25]])])

    def test_greater_groups_than_need_be(self):
        self.check(True, COUNTS, [(5, [[-4, 0, 5, 9, 20, 25]])])
        self.check(True, COUNTS, [(1, [[-4, 0, 20, 25], [5, 9]]), (11, [[-4, 0, 5, 9], [20, 25]])])
        # Greater ones at first and smaller ones behind are let by as well.
        self.check(True, COUNTS, [(3, [[-4, 0, 5, 9, 20, 25]]), (5, LEVELS[0][1])])

    def test_a_part_of_a_count_wrong(self):
        for number, count in enumerate(COUNTS):
            for place in range(4):
                for wrong in {count[place] - 1, count[place] + 1, -count[place], FAR} - {count[place]}:
                    other = count[:place] + (wrong,) + count[place + 1:]
                    self.check(False, COUNTS[:number] + [other] + COUNTS[number + 1:], LEVELS)
        self.check(False, [(right, left, rights, lefts) for left, right, rights, lefts in COUNTS], LEVELS)

    def test_rights_and_lefts_exchanged(self):
        self.assertIs(is_reason(0, 0, [(0, 4)], ([(0, 4, 1, 0)], [])), True)
        self.assertIs(is_reason(0, 0, [(0, 4)], ([(0, 4, 0, 1)], [])), False)
        self.assertIs(is_reason(0, 0, [(4, 0)], ([(0, 4, 1, 0)], [])), False)
        self.assertIs(is_reason(0, 0, [(4, 0)], ([(0, 4, 0, 1)], [])), True)

    def test_counts_left_out_or_more_or_in_another_order(self):
        self.check(False, [], LEVELS)
        self.check(False, [], [])
        for number in range(len(COUNTS)):
            self.check(False, COUNTS[:number] + COUNTS[number + 1:], LEVELS)
            self.check(False, COUNTS[:number] + [COUNTS[number]] + COUNTS[number:], LEVELS)
        self.check(False, COUNTS + [(25, 26, 0, 0)], LEVELS)
        self.check(False, [(-5, -4, 0, 0)] + COUNTS, LEVELS)
        for order in itertools.permutations(COUNTS):
            self.check(list(order) == COUNTS, list(order), LEVELS)

    def test_a_bound_below_one_or_not_rising(self):
        parts = LEVELS[0][1]
        whole = [[-4, 0, 5, 9, 20, 25]]
        for bound in (0, -1, -5, -FAR):
            self.check(False, COUNTS, [(bound, parts)])
            self.check(False, COUNTS, [(bound, whole)])
            self.check(False, COUNTS, [(bound, parts)] + LEVELS)
            self.check(False, COUNTS, LEVELS + [(bound, whole)])
        self.check(False, COUNTS, [(5, parts), (5, parts)])
        self.check(False, COUNTS, [(5, parts), (4, parts)])
        self.check(False, COUNTS, list(reversed(LEVELS)))
        self.check(False, COUNTS, [(3, whole), (5, whole), (5, whole)])
        self.check(False, COUNTS, [(3, whole), (7, whole), (6, whole), (8, whole)])

    def test_an_empty_group(self):
        for number, place in itertools.product(range(2), range(3)):
            levels = copy.deepcopy(LEVELS)
            levels[number][1].insert(place, [])
            self.check(False, COUNTS, levels)
        self.check(False, COUNTS, [(5, [])])
        self.check(False, COUNTS, [(5, [[]])])

    def test_a_stop_left_out_or_twice_or_one_that_is_none(self):
        for number, (bound, parts) in enumerate(LEVELS):
            for group, part in enumerate(parts):
                for place, stop in enumerate(part):
                    for change in ("out", "other", "twice", "again", "beyond"):
                        levels = copy.deepcopy(LEVELS)
                        told = levels[number][1]
                        if change == "out":
                            told[group].pop(place)
                        elif change == "other":
                            told[group][place] = 7
                        elif change == "twice":
                            told[group].append(stop)
                        elif change == "again":
                            told[group - 1].append(stop)
                        else:
                            told[group].insert(place, 26)
                        self.check(False, COUNTS, levels)
        self.check(False, COUNTS, [(5, LEVELS[0][1] + [[7]])])
        self.check(False, COUNTS, [(5, LEVELS[0][1] + [[5, 9]])])
        self.check(False, COUNTS, [(5, LEVELS[0][1][1:])])

    def test_a_knot_in_two_groups(self):
        self.check(False, COUNTS, [(1, [[-4], [0], [5, 9], [20, 25]])])
        self.check(False, COUNTS, [(1, [[-4, 0], [5], [9], [20, 25]])])
        self.check(False, COUNTS, [(1, [[-4, 0], [5, 9], [20], [25]])])
        self.check(False, COUNTS, [(1, [[-4, 20], [0, 25], [5, 9]])])
        self.check(False, COUNTS, LEVELS[:1] + [(11, [[-4, 0, 5, 9, 20], [25]])])

    def test_each_kind_of_knot(self):
        # A box alone, home and last alone, and a gap that is gone over empty, which ties stops that no box does.
        for wanted, home, last, boxes in [
            (True, 0, 0, [(0, 9), (9, 0), (4, 4)]),
            (True, 0, 9, [(0, 9), (4, 4)]),
            (False, 0, 9, [(9, 0), (4, 4)]),
            (False, 0, 9, [(0, 0), (4, 4)]),
            (False, 0, 0, [(0, 9), (4, 4)]),
            (False, 0, 0, [(9, 0), (4, 4)]),
        ]:
            counts = counts_by_words(home, last, boxes)
            self.assertIs(is_reason(home, last, boxes, (counts, [(1, [[0, 4, 9]])])), True)
            self.assertIs(is_reason(home, last, boxes, (counts, [(1, [[0, 9], [4]])])), wanted, (home, last, boxes))
            self.assertIs(is_reason(home, last, boxes, (counts, [(1, [[0], [4, 9]])])), False)
            self.assertIs(is_reason(home, last, boxes, (counts, [(1, [[0, 4], [9]])])), False)

    def test_a_gap_shorter_than_the_bound_in_two_groups(self):
        self.check(True, COUNTS, [(5, LEVELS[0][1])])
        self.check(False, COUNTS, [(6, LEVELS[0][1])])
        self.check(True, COUNTS, [(11, LEVELS[1][1])])
        self.check(False, COUNTS, [(12, LEVELS[1][1])])
        self.check(False, COUNTS, [(FAR, LEVELS[1][1])])
        self.check(False, COUNTS, [(11, [[-4, 0, 20, 25], [5, 9]])])
        self.check(False, COUNTS, LEVELS[:1] + [(7, LEVELS[0][1])] + LEVELS[1:])

    def test_what_is_of_another_form(self):
        for errand, thing in [(ERRAND, (COUNTS, LEVELS)), (TINY, TINY_REASON), ((4, 4, []), ([], []))]:
            self.assertIs(is_reason(*errand, thing), True)
            for other in spoilt(thing):
                before = copy.deepcopy(other)
                with self.subTest(other=other):
                    self.assertIs(is_reason(*errand, other), False)
                    check_refused(self, errors.NoReason, weight, *errand, other)
                    self.assertEqual(repr(other), repr(before))

    def test_what_has_nothing_of_a_reason(self):
        for other in [COUNTS, LEVELS, (LEVELS, COUNTS), (COUNTS,), (COUNTS, LEVELS, []), [COUNTS, LEVELS], "\t\n ~",
                      (COUNTS, LEVELS[0]), (COUNTS[0], LEVELS), {}, 54, -1, [[[[[[]]]]]], ((((((),),),),),)]:
            self.assertIs(is_reason(*ERRAND, other), False, other)
            check_refused(self, errors.NoReason, weight, *ERRAND, other)

    def test_every_grouping_of_small_errands(self):
        found = {True: 0, False: 0}
        for errand in itertools.islice(small_errands(), 0, None, 29):
            counts = counts_by_words(*errand)
            for parts in partitions(stops(*errand)):
                for bound in range(0, 7):
                    wanted = is_level_by_words(*errand, bound, parts)
                    found[wanted] += 1
                    self.assertIs(is_reason(*errand, (counts, [(bound, parts)])), wanted, (errand, bound, parts))
        self.assertGreater(min(found.values()), 1000)

    def test_reasons_that_no_one_told(self):
        chance = random.Random(17)
        for errand in errands():
            self.assertIs(is_reason(*errand, some_reason(chance, *errand)), True, errand)

    def test_many_levels(self):
        levels = [(bound, [[0], [2000, 2001]]) for bound in range(1, 2001)]
        counts = [(0, 2000, 0, 0), (2000, 2001, 0, 1)]
        self.assertIs(is_reason(0, 0, [(2001, 2000)], (counts, [])), True)
        self.assertIs(is_reason(0, 0, [(2001, 2000)], (counts, levels)), True)
        self.assertEqual(weight(0, 0, [(2001, 2000)], (counts, levels)), 4002)
        self.assertIs(is_reason(0, 0, [(2001, 2000)], (counts, levels + [(2001, [[0], [2000, 2001]])])), False)

    def test_what_is_no_errand(self):
        for errand in wrong_errands():
            for thing in (([], []), None, TINY_REASON, "", 0, [], ()):
                before = copy.deepcopy((errand, thing))
                check_refused(self, errors.NoErrand, is_reason, *errand, thing)
                self.assertEqual(repr((errand, thing)), repr(before))


class Weight(unittest.TestCase):
    """Promise 18."""

    def test_told_ones(self):
        # The gaps weigh 4 * 1 + 4 * 2 + 5 * 2, the levels 2 * 5 * 2 + 2 * 6 * 1.
        self.assertEqual(weight(*ERRAND, (COUNTS, LEVELS)), 22 + 32)
        self.assertEqual(weight(*TINY, TINY_REASON), 4)

    def test_no_levels(self):
        self.assertEqual(weight(*ERRAND, (COUNTS, [])), 22)
        self.assertEqual(weight(*TINY, (TINY_REASON[0], [])), 2)
        self.assertEqual(weight(4, 4, [], ([], [])), 0)

    def test_other_levels(self):
        whole = [[-4, 0, 5, 9, 20, 25]]
        self.assertEqual(weight(*ERRAND, (COUNTS, LEVELS[:1])), 22 + 20)
        self.assertEqual(weight(*ERRAND, (COUNTS, LEVELS[1:])), 22 + 22)
        self.assertEqual(weight(*ERRAND, (COUNTS, [(3, LEVELS[0][1])])), 22 + 12)
        self.assertEqual(weight(*ERRAND, (COUNTS, [(5, whole)])), 22)
        self.assertEqual(weight(*ERRAND, (COUNTS, [(3, whole), (5, LEVELS[0][1])])), 22 + 8)
        self.assertEqual(weight(*ERRAND, (COUNTS, LEVELS + [(100, whole)])), 22 + 32)
        self.assertEqual(weight(*ERRAND, (COUNTS, [(11, [[9, 0, 5, -4], [25, 20]])])), 22 + 22)

    def test_lacks_either_way(self):
        self.assertEqual(weight(0, 7, [], ([(0, 7, 0, 0)], [])), 7)
        self.assertEqual(weight(7, 0, [], ([(0, 7, 0, 0)], [])), 7)
        self.assertEqual(weight(7, 0, [(0, 7)] * 3, ([(0, 7, 3, 0)], [])), 7 * (3 + 4))
        self.assertEqual(weight(0, 7, [(0, 7)] * 3, ([(0, 7, 3, 0)], [])), 7 * (3 + 2))
        self.assertEqual(weight(0, 7, [(7, 0)] * 3, ([(0, 7, 0, 3)], [])), 7 * (3 + 4))
        self.assertEqual(weight(0, 0, [(7, 0), (0, 7)], ([(0, 7, 1, 1)], [])), 7 * 2)

    def test_by_the_sum(self):
        chance = random.Random(18)
        for errand in errands():
            for thing in [some_reason(chance, *errand), some_reason(chance, *errand), reason(*errand)]:
                before = copy.deepcopy((errand, thing))
                told = weight(*errand, thing)
                self.assertEqual((errand, thing), before)
                self.assertTrue(is_whole(told))
                self.assertEqual(told, weight_by_words(*errand, thing), (errand, thing))

    def test_a_reason_for_another_errand(self):
        check_refused(self, errors.NoReason, weight, *TINY, (COUNTS, LEVELS))
        check_refused(self, errors.NoReason, weight, *ERRAND, TINY_REASON)
        check_refused(self, errors.NoReason, weight, 0, -5, ERRAND[2], (COUNTS, LEVELS))

    def test_no_errand_comes_ahead_of_no_reason(self):
        for errand in wrong_errands():
            for thing in (None, ([], []), TINY_REASON, [], "", True):
                before = copy.deepcopy((errand, thing))
                check_refused(self, errors.NoErrand, weight, *errand, thing)
                self.assertEqual(repr((errand, thing)), repr(before))


class Reason(unittest.TestCase):
    """Promises 4 and 19."""

    def test_a_told_one(self):
        self.assertEqual(reason(*ERRAND), (COUNTS, LEVELS))
        self.assertEqual(reason(*TINY), TINY_REASON)
        self.assertEqual(reason(4, 4, []), ([], []))
        self.assertEqual(reason(-FAR, FAR, []), ([(-FAR, FAR, 0, 0)], []))
        self.assertEqual(reason(0, 0, [(FAR, FAR)]), ([(0, FAR, 0, 0)], [(FAR, [[0], [FAR]])]))

    def test_the_counts_and_the_levels(self):
        for errand in errands():
            handed = copy.deepcopy(errand)
            self.assertEqual(reason(*errand), (counts_by_words(*errand), levels_by_words(*errand)), errand)
            self.assertEqual(errand, handed)

    def test_it_is_let_by_and_weighs_the_least_length(self):
        for errand in errands():
            handed = copy.deepcopy(errand)
            told = reason(*errand)
            self.assertIs(is_reason(*errand, told), True, errand)
            short = least(*errand)
            self.assertTrue(is_whole(short))
            self.assertEqual(weight(*errand, told), short, errand)
            moves = tour(*errand)
            self.assertIs(is_tour(*errand, moves), True, errand)
            self.assertEqual(length(moves), short, errand)
            self.assertEqual(errand, handed)

    def test_least_lengths(self):
        self.assertEqual(least(*ERRAND), 54)
        self.assertEqual(least(4, 4, []), 0)
        self.assertEqual(least(4, 4, [(4, 4)]), 0)
        self.assertEqual(least(4, 9, []), 5)
        self.assertEqual(least(9, 4, []), 5)
        self.assertEqual(least(0, 0, [(5, 5)]), 10)
        self.assertEqual(least(-FAR, FAR, [(FAR, -FAR)] * 70), 2 * FAR * 141)

    def test_no_tour_is_shorter(self):
        tried = itertools.chain(itertools.islice(small_errands(), 0, None, 5), mixed_errands(19, 200, 5, 25))
        for errand in tried:
            self.assertEqual(least(*errand), least_by_search(*errand), errand)

    def test_no_reason_weighs_more_than_any_tour(self):
        chance = random.Random(19)
        for errand in errands():
            for _ in range(3):
                moves = some_tour(chance, *errand)
                self.assertIs(is_tour(*errand, moves), True)
                told = weight(*errand, some_reason(chance, *errand))
                self.assertLessEqual(told, length(moves), errand)
                self.assertLessEqual(told, length(tour(*errand)), errand)

    def test_every_grouping_weighs_no_more(self):
        for errand in itertools.islice(small_errands(), 0, None, 37):
            counts = counts_by_words(*errand)
            short = least_by_search(*errand)
            for parts in partitions(stops(*errand)):
                for bound in range(1, 7):
                    thing = (counts, [(bound, parts)])
                    if is_reason(*errand, thing):
                        self.assertLessEqual(weight(*errand, thing), short, (errand, thing))

    def test_kinds(self):
        for errand in (ERRAND, TINY, (4, 4, [])):
            told = reason(*errand)
            self.assertIsInstance(told, tuple)
            self.assertEqual(len(told), 2)
            for count in told[0]:
                self.assertIsInstance(count, tuple)
                self.assertTrue(all(is_whole(part) for part in count))
            for level in told[1]:
                self.assertIsInstance(level, tuple)
                self.assertTrue(is_whole(level[0]))

    def test_what_is_no_errand(self):
        for errand in wrong_errands():
            before = copy.deepcopy(errand)
            check_refused(self, errors.NoErrand, reason, *errand)
            check_refused(self, errors.NoErrand, least, *errand)
            self.assertEqual(repr(errand), repr(before))

    def test_each_list_is_new(self):
        for home, last, boxes in [ERRAND, TINY, (4, 4, []), next(far_errands())]:
            handed = list(boxes)
            told = reason(home, last, handed)
            kept = copy.deepcopy(told)
            other = reason(home, last, handed)
            check_own_lists(self, [told, other], handed)
            for one in [other[0], other[1]] + [level[1] for level in other[1]]:
                one.append(None)
            handed.append((50, 60))
            reason(home, last, handed)
            self.assertEqual(told, kept)
            self.assertEqual(reason(home, last, list(boxes)), kept)
            # What it is asked about is not kept either.
            self.assertEqual(weight(home, last, list(boxes), told), least(home, last, list(boxes)))
            self.assertEqual(told, kept)


if __name__ == "__main__":
    unittest.main()
