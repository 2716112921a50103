"""Errands and wrong things that several tests ask about."""

import itertools

FAR = 10 ** 40

NO_PLACES = [True, False, None, "", "3", "\t\n~", [], [3], (), (3,), (3, 4), [[[[[[3]]]]]]]

NO_LISTS = [
    True, False, None, 0, 7, "", "12", (), (1, 2), ((1, 2),), ((1, 2), (3, 4)), ([(1, 2)],),
]

NO_BOXES = (
    [True, False, None, 4, "", "12", [], [1, 2], (), (1,), (1, 2, 3), ((1, 2),), [(1, 2)], ((1, 2), (3, 4))]
    + [(thing, 2) for thing in NO_PLACES]
    + [(1, thing) for thing in NO_PLACES]
)


def wrong_errands():
    for thing in NO_PLACES:
        yield (thing, 5, [(1, 2)])
        yield (5, thing, [(1, 2)])
        yield (thing, 5, [])
        yield (5, thing, [])
    for thing in NO_LISTS:
        yield (0, 5, thing)
    for thing in NO_BOXES:
        yield (0, 5, [thing])
        yield (0, 5, [thing, (1, 2)])
        yield (0, 5, [(1, 2), thing, (3, 4)])
        yield (0, 5, [(1, 2), (3, 4), thing])


def small_errands():
    """Every errand of at most two boxes on four places about the mark."""
    places = [-3, 0, 1, 5]
    pairs = list(itertools.product(places, places))
    for home, last in pairs:
        yield (home, last, [])
        for one in pairs:
            yield (home, last, [one])
            for other in pairs:
                yield (home, last, [one, other])


def seventy_boxes():
    """Boxes of very unlike lengths, either way and either side of the mark, up to the farthest places."""
    row = []
    for number in range(70):
        start = FAR - number * 10 ** (number // 2)
        goal = -FAR + number * number
        row.append((start, goal) if number % 3 else (goal, start))
    return row
