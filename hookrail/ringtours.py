"""Tours of a ring's errand: what is one, how long moves on a ring are, and a tour of the least length."""

from hookrail.rings import (
    check_ring, has_place, is_way, ring_edges, ring_forest, ring_lacks, steps, turns, without_ways,
)
from hookrail.rows import row_between
from hookrail.tours import is_tour


def keeps_to_ring(size, boxes, move):
    if not is_way(move[-1]):
        return False
    if move[0] == "box":
        return move[-1] == boxes[move[1]][2]
    return has_place(size, move[1]) and has_place(size, move[2])


def is_ring_tour(size, home, last, boxes, thing):
    check_ring(size, home, last, boxes)
    if not isinstance(thing, list) or not all([isinstance(move, tuple) for move in thing]):
        return False
    # But for the ways and for where the ring has places, its tour is one as on a straight rail.
    if not is_tour(home, last, without_ways(boxes), [move[:-1] for move in thing]):
        return False
    return all([keeps_to_ring(size, boxes, move) for move in thing])


def ring_length(size, moves):
    return sum([steps(size, move[-3], move[-2], move[-1]) for move in moves])


def turn_weight(turn):
    return turn[1]


def best_turn(size, home, last, boxes):
    # Of several alike min gives the first.
    return min(turns(size, home, last, boxes), key=turn_weight)[0]


def carries(boxes):
    return [("box", number) + box for number, box in enumerate(boxes)]


def go_right(edge):
    return ("go", edge[0], edge[1], 1)


def go_left(edge):
    return ("go", edge[1], edge[0], -1)


def empty_moves(size, home, last, boxes, c):
    edges = ring_edges(size, home, last, boxes)
    lacks = ring_lacks(size, home, last, boxes, c)
    moves = []
    for edge, lack in zip(edges, lacks):
        move = go_right(edge) if lack > 0 else go_left(edge)
        moves.extend([move] * abs(lack))
    for edge in ring_forest(home, last, boxes, edges, lacks):
        moves.extend([go_right(edge), go_left(edge)])
    return moves


def ring_tour(size, home, last, boxes):
    c = best_turn(size, home, last, boxes)
    moves = carries(boxes) + empty_moves(size, home, last, boxes, c)
    arcs = [move[-3:-1] for move in moves]
    return [moves[number] for number in row_between(home, last, arcs)]
