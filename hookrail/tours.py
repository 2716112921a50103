"""Tours of an errand: what is one, how long moves are, and a tour that goes empty no more often than it must."""

from hookrail.counts import lacks
from hookrail.forest import forest
from hookrail.groups import knots
from hookrail.rails import check_errand, gap_edges, gaps, is_whole, stops
from hookrail.rows import row_between


def is_go(thing):
    if not isinstance(thing, tuple) or len(thing) != 3 or thing[0] != "go":
        return False
    return is_whole(thing[1]) and is_whole(thing[2]) and thing[1] != thing[2]


def has_carry_form(thing, boxes):
    if not isinstance(thing, tuple) or len(thing) != 4 or thing[0] != "box":
        return False
    if not all([is_whole(part) for part in thing[1:]]):
        return False
    # Python would take a number below 0 as one counted from the end.
    return thing[1] >= 0 and thing[1] < len(boxes)


def is_carry(thing, boxes):
    return has_carry_form(thing, boxes) and thing[2:] == boxes[thing[1]]


def is_move(thing, boxes):
    return is_go(thing) or is_carry(thing, boxes)


def leads(home, last, moves):
    here = home
    for move in moves:
        if move[-2] != here:
            return False
        here = move[-1]
    return here == last


def is_tour(home, last, boxes, thing):
    check_errand(home, last, boxes)
    if not isinstance(thing, list) or not all([is_move(move, boxes) for move in thing]):
        return False
    carried = [move[1] for move in thing if move[0] == "box"]
    return sorted(carried) == list(range(len(boxes))) and leads(home, last, thing)


def length(moves):
    return sum([abs(move[-1] - move[-2]) for move in moves])


def lacking_arcs(home, last, boxes):
    arcs = []
    for gap, lack in zip(gaps(home, last, boxes), lacks(home, last, boxes)):
        arc = gap if lack > 0 else (gap[1], gap[0])
        arcs.extend([arc] * abs(lack))
    return arcs


def forest_arcs(home, last, boxes):
    arcs = []
    places = stops(home, last, boxes)
    for edge in forest(places, knots(home, last, boxes), gap_edges(home, last, boxes)):
        arcs.append((edge[0], edge[1]))
        arcs.append((edge[1], edge[0]))
    return arcs


def move_along(number, arc, boxes):
    if number < len(boxes):
        return ("box", number, arc[0], arc[1])
    return ("go", arc[0], arc[1])


def tour(home, last, boxes):
    empty = lacking_arcs(home, last, boxes) + forest_arcs(home, last, boxes)
    arcs = boxes + empty
    return [move_along(number, arcs[number], boxes) for number in row_between(home, last, arcs)]
