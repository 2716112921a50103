"""Errands and wrong things that several tests ask about."""

import itertools
import random

from hookrail import errors

FAR = 10 ** 40

NO_PLACES = [True, False, None, "", "3", "\t\n~", [], [3], (), (3,), (3, 4), [[[[[[3]]]]]]]

NO_LISTS = [
    True, False, None, 0, 7, "", "12", (), (1, 2), ((1, 2),), ((1, 2), (3, 4)), ([(1, 2)],),
]

NO_BOXES = (
    [True, False, None, 4, "", "12", [], [1, 2], (), (1,), (1, 2, 3), ((1, 2),), [(1, 2)], ((1, 2), (3, 4))]
    + [(thing, 2) for thing in NO_PLACES]
    + [(1, thing) for thing in NO_PLACES]
)


REFUSALS = (
    errors.NoErrand, errors.NoRow, errors.NoReason, errors.NoYard, errors.NoRing, errors.NoText, errors.NoWord,
    errors.NoBox,
)


def check_refused(case, refusal, ask, *asked):
    """That asking is refused with this refusal, which is a RailError, a ValueError and none of the other refusals."""
    with case.assertRaises(refusal) as caught:
        ask(*asked)
    case.assertIsInstance(caught.exception, errors.RailError)
    case.assertIsInstance(caught.exception, ValueError)
    case.assertNotIsInstance(caught.exception, tuple(one for one in REFUSALS if one is not refusal))


def is_whole(thing):
    return isinstance(thing, int) and not isinstance(thing, bool)


def lists_within(thing):
    """Every list in a thing, itself among them, each as often as it is met."""
    if isinstance(thing, list):
        yield thing
    if isinstance(thing, (list, tuple)):
        for part in thing:
            yield from lists_within(part)


def check_own_lists(case, told, *handed):
    """That no two lists of what was told are one, and none of them is one that was handed in."""
    marks = [id(one) for one in lists_within(told)]
    case.assertEqual(len(marks), len(set(marks)))
    case.assertFalse(set(marks) & {id(one) for one in lists_within(handed)})


def wrong_errands():
    for thing in NO_PLACES:
        yield (thing, 5, [(1, 2)])
        yield (5, thing, [(1, 2)])
        yield (thing, 5, [])
        yield (5, thing, [])
    for thing in NO_LISTS:
        yield (0, 5, thing)
    for thing in NO_BOXES:
        yield (0, 5, [thing])
        yield (0, 5, [thing, (1, 2)])
        yield (0, 5, [(1, 2), thing, (3, 4)])
        yield (0, 5, [(1, 2), (3, 4), thing])


def small_errands():
    """Every errand of at most two boxes on four places about the mark."""
    places = [-3, 0, 1, 5]
    pairs = list(itertools.product(places, places))
    for home, last in pairs:
        yield (home, last, [])
        for one in pairs:
            yield (home, last, [one])
            for other in pairs:
                yield (home, last, [one, other])


def seventy_boxes():
    """Boxes of very unlike lengths, either way and either side of the mark, up to the farthest places."""
    row = []
    for number in range(70):
        start = FAR - number * 10 ** (number // 2)
        goal = -FAR + number * number
        row.append((start, goal) if number % 3 else (goal, start))
    return row


def mixed_errands(seed, count, most, reach):
    """Errands of at most so many boxes, in places that no rule has chosen but the seed; some boxes stay."""
    chance = random.Random(seed)
    for number in range(count):
        places = [chance.randint(-reach, reach) for _ in range(chance.randint(1, 9))]
        boxes = [(chance.choice(places), chance.choice(places)) for _ in range(chance.randint(0, most))]
        yield (chance.choice(places), chance.choice(places), boxes)


def scattered_errands():
    """Errands with many boxes, each of them in places of its own."""
    chance = random.Random(16)
    for reach in (100, 10 ** 9, FAR):
        for kind in range(3):
            boxes = []
            for _ in range(70):
                start = chance.randint(-reach, reach)
                # Near goals leave gaps that no box crosses, far ones gaps that many do; some boxes stay.
                goal = (start, chance.randint(max(-reach, start - 3), start), chance.randint(-reach, reach))[kind]
                boxes.append((start, goal))
            yield (chance.randint(-reach, reach), chance.randint(-reach, reach), boxes)


def far_errands():
    """Errands with seventy boxes and with the farthest places."""
    yield (0, 0, seventy_boxes())
    yield (FAR, -FAR, seventy_boxes())
    yield (-FAR, FAR, seventy_boxes())
    yield (-FAR, FAR, [])
    yield (FAR, FAR, [(-FAR, -FAR)])
    yield (FAR, -FAR, [(1 - FAR, FAR - 1), (0, 0)])
    yield (5, 5, [(5, 9)] * 70)
    yield (5, 9, [(9, 5), (5, 9)] * 35)
    yield (0, 0, [(number, number) for number in range(-70, 70, 2)])
    yield (0, 0, [(number, -number) for number in range(70)])
    yield (0, 3, [(2 * number, 2 * number + 1) for number in range(70)])
    yield from scattered_errands()


def wrong_in_the_place_of(part):
    """Things of another form than a part of a reason or of a list of moves, wherever it stands there."""
    if isinstance(part, str):
        return [None, True, 0, "", part.upper(), part + " ", "carry", [part], (part,)]
    if is_whole(part):
        return [bool(part), not part, None, "", str(part), [], (), [part], (part,)]
    if isinstance(part, list):
        return [
            tuple(part), [part], (part,), None, True, False, 0, "", repr(part), part + [None], [None] + part,
            part + [True], part + [()], part + [[]], part + (part or [None])[:1],
        ]
    return [
        list(part), [part], (part,), (), part[1:], part[:-1], part + (None,), (None,) + part, part + part[-1:],
        part + ([],), None, True, False, 0, "", repr(part),
    ]


def spoilt(thing):
    """A thing with one part of it, at any depth, of a wrong form."""
    yield from wrong_in_the_place_of(thing)
    if isinstance(thing, (list, tuple)):
        for number, part in enumerate(thing):
            for other in spoilt(part):
                changed = list(thing)
                changed[number] = other
                yield changed if isinstance(thing, list) else tuple(changed)


def wrong_yards():
    for thing in NO_PLACES:
        yield (thing, [(1, 2)])
        yield (thing, [])
    for thing in NO_LISTS:
        yield (0, thing)
    for thing in NO_BOXES + [(-1, 4), (4, -1), (-1, -1), (-FAR, FAR), (FAR, -FAR)]:
        yield (0, [thing])
        yield (0, [thing, (1, 2)])
        yield (0, [(1, 2), thing, (3, 4)])
        yield (0, [(1, 2), (3, 4), thing])
    yield (5, [(4, 4)])
    yield (5, [(5, 6), (6, 4)])
    yield (-4, [(-5, -3)])
    yield (FAR, [(FAR, FAR - 1)])


def small_yards():
    """Every yard of at most two boxes on four places about the mark, the gate the least of them or left of all."""
    places = [-3, 0, 1, 5]
    pairs = list(itertools.product(places, places))
    for gate in (-3, -5):
        yield (gate, [])
        for one in pairs:
            yield (gate, [one])
            for other in pairs:
                yield (gate, [one, other])


def mixed_yards(seed, count, most, reach):
    """Yards of at most so many boxes, with the gate among their places or left of all."""
    for number, (home, last, boxes) in enumerate(mixed_errands(seed, count, most, reach)):
        places = [place for box in boxes for place in box]
        more = home if number % 2 else -reach
        yield (min(places + [more]), boxes)


def three_box_yards(seed, count):
    """Yards of just three boxes, few enough to try every way of doing them."""
    chance = random.Random(seed)
    for number in range(count):
        boxes = [(chance.randint(1, 9), chance.randint(1, 9)) for _ in range(3)]
        yield (chance.randint(-2, 1), boxes)


def nested_boxes():
    """Pairs of boxes there and back, each within the next: every pair hangs apart from all others."""
    boxes = []
    for number in range(35):
        boxes.extend([(number, 200 - number), (200 - number, number)])
    return boxes


def far_yards():
    """Yards with seventy boxes and with the farthest places."""
    for home, last, boxes in far_errands():
        yield (min([place for box in boxes for place in box] + [home, last]), boxes)
        yield (-FAR, boxes)
    yield (0, nested_boxes())
    yield (-1, list(reversed(nested_boxes())))
    yield (0, [(number, number + 71) for number in range(70)])
    yield (0, [(number + 71, number) for number in range(70)])
    # Each box that is carried over a pair of others goes over the next pair too, so it is set down often.
    yield (0, [(0, 200), (200, 0)] + [(k, k + 1) for k in range(1, 68, 2)] + [(k + 1, k) for k in range(1, 68, 2)])
    yield (-FAR, [(-FAR, -FAR)] * 70)
    yield (FAR, [])


def wrong_sizes_and_places():
    """A size, home and last of which one is none, or that don't go with one another."""
    for thing in NO_PLACES:
        yield (thing, 0, 0)
        yield (5, thing, 0)
        yield (5, 0, thing)
    for size in (0, -1, -5, -FAR):
        yield (size, 0, 0)
        yield (size, size, size)
        yield (size, size - 1, size - 1)
    for size in (1, 5, FAR):
        for place in (-FAR, -size, -1, size, size + 1, 2 * FAR):
            yield (size, place, 0)
            yield (size, 0, place)
            yield (size, place, place)


NO_RING_BOXES = (
    NO_BOXES
    + [(1, 2), [1, 2, 1], (1, 2, 1, 1), (1, 2, (1,)), ((1, 2), 1), ((1, 2, 1),), (1, 2, 1, None)]
    + [(1, 2, way) for way in NO_PLACES + [0, 2, -2, 3, FAR, -FAR, "+", "-", "1"]]
    + [(thing, 2, 1) for thing in NO_PLACES + [-1, 5, 6, FAR, -FAR]]
    + [(1, thing, -1) for thing in NO_PLACES + [-1, 5, 6, FAR, -FAR]]
    + [(-1, -1, 1), (5, 5, -1)]
)


def wrong_rings():
    for size, home, last in wrong_sizes_and_places():
        yield (size, home, last, [])
        yield (size, home, last, [(0, 0, 1)])
    for thing in NO_LISTS + [((1, 2, 1),), ((1, 2, 1), (3, 4, -1)), ([(1, 2, 1)],)]:
        yield (5, 0, 4, thing)
    for thing in NO_RING_BOXES:
        yield (5, 0, 4, [thing])
        yield (5, 0, 4, [thing, (1, 2, 1)])
        yield (5, 0, 4, [(1, 2, 1), thing, (3, 4, -1)])
        yield (5, 0, 4, [(1, 2, 1), (3, 4, -1), thing])


NO_TEXTS = [
    True, False, None, 0, 7, -1, [], (), ["rail", 0, 0], ("rail", 0, 0, []), ["rail 0 0"], ("rail 0 0",),
    [[[[[["gate 0"]]]]]], ("gate", 0, []), ["least"], ("least",), [["text"]],
]


def small_rings():
    """Every ring of at most three places and two boxes."""
    for size in (1, 2, 3):
        places = range(size)
        kinds = list(itertools.product(places, places, (1, -1)))
        for home, last in itertools.product(places, places):
            yield (size, home, last, [])
            for one in kinds:
                yield (size, home, last, [one])
                for other in kinds:
                    yield (size, home, last, [one, other])


def mixed_rings(seed, count, most, size):
    """Rings of at most so many boxes, in places that no rule has chosen but the seed; some boxes stay."""
    chance = random.Random(seed)
    for number in range(count):
        places = [chance.randrange(size) for _ in range(chance.randint(1, 9))]
        ways = ((1,), (-1,), (1, -1))[number % 3]
        boxes = []
        for _ in range(chance.randint(0, most)):
            boxes.append((chance.choice(places), chance.choice(places), chance.choice(ways)))
        yield (size, chance.choice(places), chance.choice(places), boxes)


def apart_rings(seed, count, size):
    """Rings of pairs of boxes there and back on short ways: many gaps lack nothing, so that much hangs apart."""
    chance = random.Random(seed)
    for number in range(count):
        boxes = []
        for _ in range(chance.randint(1, 5)):
            one = chance.randrange(size)
            other = (one + chance.randint(0, 3)) % size
            way = chance.choice((1, -1))
            boxes.extend([(one, other, way), (other, one, -way)])
        home = chance.randrange(size)
        yield (size, home, home if number % 3 else chance.randrange(size), boxes)


def far_rings():
    """Rings with seventy boxes and of the greatest sizes."""
    chance = random.Random(25)
    for size in (71, 1000, 10 ** 12, FAR - 1, FAR):
        for ways in ((1,), (-1,), (1, -1)):
            boxes = []
            for _ in range(70):
                boxes.append((chance.randrange(size), chance.randrange(size), chance.choice(ways)))
            yield (size, chance.randrange(size), chance.randrange(size), boxes)
        yield from apart_rings(size, 3, size)
        yield (size, 0, size - 1, [(number, number, 1) for number in range(70)])
        yield (size, size - 1, 0, [(size - 1, 0, 1), (0, size - 1, -1)] * 35)
        yield (size, 5, 5, [(number, (number - 1) % size, 1) for number in range(70)])
        yield (size, 5, 5, [((number - 1) % size, number, -1) for number in range(70)])
        yield (size, 0, 0, [(0, size - 1, 1)] * 70)
        yield (size, size - 1, size - 1, [])
        yield (size, size - 1, size - 1, [(size - 1, size - 1, -1)] * 70)
    yield (FAR, 0, 0, [(number, number + 71, 1) for number in range(70)])
    yield (FAR, 3, 9, [(number, number + 71, -1) for number in range(70)])
    yield (142, 0, 141, [(number, number + 71, 1 - 2 * (number % 2)) for number in range(70)])


def told_things():
    """Tuples as texts tell them: of each kind, small and mixed ones, some with seventy boxes and forty figures."""
    most = FAR - 1
    for reach in (1, 9, 10 ** 12, most):
        for errand in mixed_errands(reach + 26, 60, 6, reach):
            yield ("rail", *errand)
        for yard in mixed_yards(reach + 26, 60, 6, reach):
            yield ("gate", *yard)
    for size in (1, 2, 9, 10 ** 12, most):
        for ring in mixed_rings(size + 26, 60, 6, size):
            yield ("ring", *ring)
    yield ("rail", -most, most, [(most - number, number - most) for number in range(70)])
    yield ("gate", -most, [(most - number, number - most) for number in range(70)])
    yield ("ring", most, 0, most - 1, [(most - 1 - number, number, 1 - 2 * (number % 2)) for number in range(70)])
