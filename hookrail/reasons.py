"""Reasons: rows of whole numbers that show that no tour of an errand is shorter, and what they weigh."""

from hookrail.counts import crossed, lacks
from hookrail.errors import NoReason
from hookrail.forest import cost, group_numbers, levels, weighed
from hookrail.groups import knots
from hookrail.rails import check_errand, gap_edges, gaps, is_whole, stops


def all_whole(parts):
    return all([is_whole(part) for part in parts])


def counts_of(home, last, boxes):
    return [gap + crossed(boxes, gap) for gap in gaps(home, last, boxes)]


def are_counts(thing, wanted):
    # Python holds True and False alike to 1 and 0, so to be alike is not enough.
    return thing == wanted and all([all_whole(count) for count in thing])


def is_group(thing):
    return isinstance(thing, list) and len(thing) > 0 and all_whole(thing)


def are_groups(thing, places):
    if not isinstance(thing, list) or not all([is_group(part) for part in thing]):
        return False
    grouped = []
    for part in thing:
        grouped.extend(part)
    return sorted(grouped) == places


def holds_together(parts, ties):
    numbers = group_numbers(parts)
    return all([numbers[tie[0]] == numbers[tie[1]] for tie in ties])


def is_level(thing, places, ties, edges):
    if not isinstance(thing, tuple) or len(thing) != 2 or not is_whole(thing[0]):
        return False
    if not are_groups(thing[1], places):
        return False
    shorter = [edge for edge in edges if cost(edge) < thing[0]]
    return holds_together(thing[1], ties + shorter)


def rise_from_one(bounds):
    return all([ahead < bound for ahead, bound in zip([0] + bounds, bounds)])


def are_levels(home, last, boxes, thing):
    if not isinstance(thing, list):
        return False
    places = stops(home, last, boxes)
    ties = knots(home, last, boxes)
    edges = gap_edges(home, last, boxes)
    if not all([is_level(level, places, ties, edges) for level in thing]):
        return False
    return rise_from_one([level[0] for level in thing])


def is_reason(home, last, boxes, thing):
    check_errand(home, last, boxes)
    if not isinstance(thing, tuple) or len(thing) != 2:
        return False
    return are_counts(thing[0], counts_of(home, last, boxes)) and are_levels(home, last, boxes, thing[1])


def gap_weight(count, lack):
    return (count[1] - count[0]) * (count[2] + count[3] + abs(lack))


def weight(home, last, boxes, thing):
    if not is_reason(home, last, boxes, thing):
        raise NoReason("a reason must be a tuple of the errand's counts and of levels that hold its knots together")
    crossings = [gap_weight(count, lack) for count, lack in zip(thing[0], lacks(home, last, boxes))]
    # A group that hangs apart must be gone to and left again, hence twice; home's own group is there already.
    return sum(crossings) + 2 * weighed(thing[1], 1)


def reason(home, last, boxes):
    bounds = levels(stops(home, last, boxes), knots(home, last, boxes), gap_edges(home, last, boxes))
    return (counts_of(home, last, boxes), bounds)


def least(home, last, boxes):
    return weight(home, last, boxes, reason(home, last, boxes))
