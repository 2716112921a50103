"""Yards with a gate at their left end: what is one, how often each gap must be passed, and the least length."""

from hookrail.counts import crossed
from hookrail.errors import NoYard
from hookrail.rails import is_errand


def is_yard(gate, boxes):
    # The hook of a yard begins and ends at the gate, so that gate and boxes are an errand first of all.
    return is_errand(gate, gate, boxes) and all([gate <= min(box) for box in boxes])


def check_yard(gate, boxes):
    if not is_yard(gate, boxes):
        raise NoYard("gate must be a place, and boxes a list of tuples of two places, none of them left of the gate")


def yard_places(gate, boxes):
    places = [gate]
    for start, goal in boxes:
        if start != goal:
            places.extend([start, goal])
    return sorted(set(places))


def times_passed(boxes, gap):
    # The hook comes back over each gap as often as it goes over it, and it must go there at all.
    return max(crossed(boxes, gap) + (1,))


def passes(gate, boxes):
    check_yard(gate, boxes)
    places = yard_places(gate, boxes)
    return [gap + (times_passed(boxes, gap),) for gap in zip(places, places[1:])]


def yard_least(gate, boxes):
    return sum([2 * (right - left) * times for left, right, times in passes(gate, boxes)])
