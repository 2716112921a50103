"""Errands on a straight rail: what is one, its stops and its gaps."""

from hookrail.errors import NoErrand


def is_whole(thing):
    # Python counts True and False among the ints; here they are no numbers.
    return isinstance(thing, int) and not isinstance(thing, bool)


def is_box(thing):
    return isinstance(thing, tuple) and len(thing) == 2 and is_whole(thing[0]) and is_whole(thing[1])


def is_errand(home, last, boxes):
    if not is_whole(home) or not is_whole(last) or not isinstance(boxes, list):
        return False
    return all([is_box(box) for box in boxes])


def check_errand(home, last, boxes):
    if not is_errand(home, last, boxes):
        raise NoErrand("home and last must be places, and boxes a list of tuples of two places")


def stops(home, last, boxes):
    check_errand(home, last, boxes)
    places = [home, last]
    for box in boxes:
        places.extend(box)
    return sorted(set(places))


def gaps(home, last, boxes):
    places = stops(home, last, boxes)
    return list(zip(places, places[1:]))


def gap_edges(home, last, boxes):
    return [(gap[0], gap[1], gap[1] - gap[0]) for gap in gaps(home, last, boxes)]
