"""Errands and wrong things that several tests ask about."""

import itertools
import random

from hookrail import errors

FAR = 10 ** 40

NO_PLACES = [True, False, None, "", "3", "\t\n~", [], [3], (), (3,), (3, 4), [[[[[[3]]]]]]]

NO_LISTS = [
    True, False, None, 0, 7, "", "12", (), (1, 2), ((1, 2),), ((1, 2), (3, 4)), ([(1, 2)],),
]

NO_BOXES = (
    [True, False, None, 4, "", "12", [], [1, 2], (), (1,), (1, 2, 3), ((1, 2),), [(1, 2)], ((1, 2), (3, 4))]
    + [(thing, 2) for thing in NO_PLACES]
    + [(1, thing) for thing in NO_PLACES]
)


REFUSALS = (
    errors.NoErrand, errors.NoRow, errors.NoReason, errors.NoYard, errors.NoRing, errors.NoText, errors.NoWord,
    errors.NoBox,
)


def check_refused(case, refusal, ask, *asked):
    """That asking is refused with this refusal, which is a RailError, a ValueError and none of the other refusals."""
    with case.assertRaises(refusal) as caught:
        ask(*asked)
    case.assertIsInstance(caught.exception, errors.RailError)
    case.assertIsInstance(caught.exception, ValueError)
    case.assertNotIsInstance(caught.exception, tuple(one for one in REFUSALS if one is not refusal))


def is_whole(thing):
    return isinstance(thing, int) and not isinstance(thing, bool)


def lists_within(thing):
    """Every list in a thing, itself among them, each as often as it is met."""
    if isinstance(thing, list):
        yield thing
    if isinstance(thing, (list, tuple)):
        for part in thing:
            yield from lists_within(part)


def check_own_lists(case, told, *handed):
    """That no two lists of what was told are one, and none of them is one that was handed in."""
    marks = [id(one) for one in lists_within(told)]
    case.assertEqual(len(marks), len(set(marks)))
    case.assertFalse(set(marks) & {id(one) for one in lists_within(handed)})


def wrong_errands():
    for thing in NO_PLACES:
        yield (thing, 5, [(1, 2)])
        yield (5, thing, [(1, 2)])
        yield (thing, 5, [])
        yield (5, thing, [])
    for thing in NO_LISTS:
        yield (0, 5, thing)
    for thing in NO_BOXES:
        yield (0, 5, [thing])
        yield (0, 5, [thing, (1, 2)])
        yield (0, 5, [(1, 2), thing, (3, 4)])
        yield (0, 5, [(1, 2), (3, 4), thing])


def small_errands():
    """Every errand of at most two boxes on four places about the mark."""
    places = [-3, 0, 1, 5]
    pairs = list(itertools.product(places, places))
    for home, last in pairs:
        yield (home, last, [])
        for one in pairs:
            yield (home, last, [one])
            for other in pairs:
                yield (home, last, [one, other])


def seventy_boxes():
    """Boxes of very unlike lengths, either way and either side of the mark, up to the farthest places."""
    row = []
    for number in range(70):
        start = FAR - number * 10 ** (number // 2)
        goal = -FAR + number * number
        row.append((start, goal) if number % 3 else (goal, start))
    return row


def mixed_errands(seed, count, most, reach):
    """Errands of at most so many boxes, in places that no rule has chosen but the seed; some boxes stay."""
    chance = random.Random(seed)
    for number in range(count):
        places = [chance.randint(-reach, reach) for _ in range(chance.randint(1, 9))]
        boxes = [(chance.choice(places), chance.choice(places)) for _ in range(chance.randint(0, most))]
        yield (chance.choice(places), chance.choice(places), boxes)


def scattered_errands():
    """Errands with many boxes, each of them in places of its own."""
    chance = random.Random(16)
    for reach in (100, 10 ** 9, FAR):
        for kind in range(3):
            boxes = []
            for _ in range(70):
                start = chance.randint(-reach, reach)
                # Near goals leave gaps that no box crosses, far ones gaps that many do; some boxes stay.
                goal = (start, chance.randint(max(-reach, start - 3), start), chance.randint(-reach, reach))[kind]
                boxes.append((start, goal))
            yield (chance.randint(-reach, reach), chance.randint(-reach, reach), boxes)


def far_errands():
    """Errands with seventy boxes and with the farthest places."""
    yield (0, 0, seventy_boxes())
    yield (FAR, -FAR, seventy_boxes())
    yield (-FAR, FAR, seventy_boxes())
    yield (-FAR, FAR, [])
    yield (FAR, FAR, [(-FAR, -FAR)])
    yield (FAR, -FAR, [(1 - FAR, FAR - 1), (0, 0)])
    yield (5, 5, [(5, 9)] * 70)
    yield (5, 9, [(9, 5), (5, 9)] * 35)
    yield (0, 0, [(number, number) for number in range(-70, 70, 2)])
    yield (0, 0, [(number, -number) for number in range(70)])
    yield (0, 3, [(2 * number, 2 * number + 1) for number in range(70)])
    yield from scattered_errands()
