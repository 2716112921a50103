import copy
import unittest

from hookrail import errors
from hookrail.counts import lacks
from hookrail.rails import gaps, is_errand, stops
from samples import FAR, check_refused, seventy_boxes, small_errands, wrong_errands


class WhatIsAnErrand(unittest.TestCase):
    """Promises 2, 3 and 5."""

    def test_errands(self):
        for errand in [
            (0, 0, []),
            (3, -9, [(1, 5), (-7, 2)]),
            (-1, 1, [(4, 4)]),
            (9, 2, [(1, 5), (1, 5), (5, 1)]),
            (0, 1, [(0, 1), (1, 0)]),
            (-FAR, FAR, [(FAR, -FAR)]),
            (FAR, -FAR, seventy_boxes()),
        ]:
            with self.subTest(errand=errand):
                self.assertIs(is_errand(*errand), True)

    def test_somewhat_beyond_the_bounds_is_still_an_errand(self):
        self.assertIs(is_errand(-FAR - 1, FAR * 10, [(FAR + 1, 0)] * 75), True)

    def test_every_small_one(self):
        for errand in small_errands():
            self.assertIs(is_errand(*errand), True, errand)

    def test_what_is_none(self):
        for errand in wrong_errands():
            with self.subTest(errand=errand):
                self.assertIs(is_errand(*errand), False)


class Stops(unittest.TestCase):
    """Promise 6."""

    def test_sorted_and_each_once(self):
        self.assertEqual(stops(3, -9, [(1, 5), (-7, 2)]), [-9, -7, 1, 2, 3, 5])
        self.assertEqual(stops(4, 4, [(4, 1), (1, 4), (1, 1), (1, 4)]), [1, 4])
        self.assertEqual(stops(10, 9, [(100, -100), (-20, 3)]), [-100, -20, 3, 9, 10, 100])

    def test_without_boxes(self):
        self.assertEqual(stops(7, 7, []), [7])
        self.assertEqual(stops(2, 7, []), [2, 7])
        self.assertEqual(stops(7, 2, []), [2, 7])

    def test_a_box_that_stays_has_its_place(self):
        self.assertEqual(stops(0, 0, [(-6, -6)]), [-6, 0])

    def test_farthest_places(self):
        self.assertEqual(
            stops(FAR, -FAR, [(FAR - 1, 1 - FAR), (0, FAR)]), [-FAR, 1 - FAR, 0, FAR - 1, FAR]
        )

    def test_seventy_boxes(self):
        boxes = seventy_boxes()
        told = stops(5, -5, boxes)
        self.assertTrue(all(left < right for left, right in zip(told, told[1:])))
        places = {5, -5} | {box[0] for box in boxes} | {box[1] for box in boxes}
        self.assertEqual(set(told), places)

    def test_every_small_one(self):
        for home, last, boxes in small_errands():
            wanted = [
                place for place in range(-3, 6)
                if place in (home, last) or any(place in box for box in boxes)
            ]
            self.assertEqual(stops(home, last, boxes), wanted, (home, last, boxes))


class Gaps(unittest.TestCase):
    """Promise 6."""

    def test_neighbouring_stops_from_left_to_right(self):
        self.assertEqual(gaps(3, -9, [(1, 5), (-7, 2)]), [(-9, -7), (-7, 1), (1, 2), (2, 3), (3, 5)])
        self.assertEqual(gaps(8, 0, [(0, 8), (3, 3)]), [(0, 3), (3, 8)])

    def test_without_boxes(self):
        self.assertEqual(gaps(7, 7, []), [])
        self.assertEqual(gaps(2, 7, []), [(2, 7)])
        self.assertEqual(gaps(7, 2, []), [(2, 7)])

    def test_one_stop_alone_has_none(self):
        self.assertEqual(gaps(-4, -4, [(-4, -4), (-4, -4)]), [])

    def test_farthest_places(self):
        self.assertEqual(
            gaps(FAR, -FAR, [(FAR - 1, 1 - FAR)]), [(-FAR, 1 - FAR), (1 - FAR, FAR - 1), (FAR - 1, FAR)]
        )

    def test_they_cover_the_stops_in_order(self):
        errands = list(small_errands()) + [(0, 1, seventy_boxes())]
        for errand in errands:
            told = gaps(*errand)
            places = stops(*errand)
            self.assertEqual(len(told), len(places) - 1, errand)
            for number, gap in enumerate(told):
                self.assertEqual(gap, (places[number], places[number + 1]), errand)

    def test_kinds(self):
        told = gaps(3, -9, [(1, 5), (-7, 2)])
        self.assertIsInstance(told, list)
        self.assertTrue(all(isinstance(gap, tuple) for gap in told))


class Refused(unittest.TestCase):
    """What is asked of no errand is refused with NoErrand, of anything."""

    def test_no_errand(self):
        for ask in (stops, gaps, lacks):
            for errand in wrong_errands():
                with self.subTest(ask=ask.__name__, errand=errand):
                    check_refused(self, errors.NoErrand, ask, *errand)

    def test_what_is_refused_stays_as_it_was(self):
        for errand in wrong_errands():
            before = copy.deepcopy(errand)
            is_errand(*errand)
            for ask in (stops, gaps, lacks):
                with self.assertRaises(errors.NoErrand):
                    ask(*errand)
            self.assertEqual(repr(errand), repr(before))


class NothingKept(unittest.TestCase):
    """Promise 2."""

    def test_what_is_handed_in_stays_as_it_was(self):
        boxes = [(9, 1), (1, 9), (9, 1), (4, 4), (-2, 3)]
        for ask in (is_errand, stops, gaps, lacks):
            ask(6, -6, boxes)
            self.assertEqual(boxes, [(9, 1), (1, 9), (9, 1), (4, 4), (-2, 3)], ask.__name__)

    def test_each_list_told_is_a_new_one(self):
        for home, last, boxes in [(6, -6, [(9, 1), (4, 4)]), (0, 0, []), (0, 1, [])]:
            for ask in (stops, gaps, lacks):
                with self.subTest(ask=ask.__name__, boxes=boxes):
                    told = ask(home, last, boxes)
                    kept = list(told)
                    told.append("mine")
                    again = ask(home, last, boxes)
                    self.assertIsNot(again, told)
                    self.assertIsNot(again, boxes)
                    self.assertEqual(again, kept)

    def test_what_is_done_later_changes_nothing_told(self):
        for ask in (stops, gaps, lacks):
            boxes = [(9, 1), (4, 4)]
            told = ask(6, -6, boxes)
            kept = list(told)
            boxes.append((20, 30))
            boxes[0] = (50, 60)
            ask(6, -6, boxes)
            self.assertEqual(told, kept, ask.__name__)

    def test_a_list_that_was_changed_is_seen_as_it_is_now(self):
        boxes = [(9, 1)]
        stops(0, 0, boxes)
        boxes.append((5, 5))
        self.assertEqual(stops(0, 0, boxes), [0, 1, 5, 9])
        self.assertEqual(gaps(0, 0, boxes), [(0, 1), (1, 5), (5, 9)])
        self.assertEqual(lacks(0, 0, boxes), [0, 1, 1])
        boxes.append((True, 5))
        self.assertIs(is_errand(0, 0, boxes), False)


if __name__ == "__main__":
    unittest.main()
