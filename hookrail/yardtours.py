"""Tours of a yard, in which a box may be set down on the way: what is one, and one of the least length."""

from hookrail.counts import crossed
from hookrail.groups import group_of, neighbours
from hookrail.rows import row_of
from hookrail.tours import has_carry_form, is_go, leads
from hookrail.yards import check_yard, passes


def is_yard_carry(thing, boxes):
    return has_carry_form(thing, boxes) and thing[2] != thing[3]


def brings_each_box(boxes, moves):
    lying = [box[0] for box in boxes]
    for move in moves:
        if move[0] == "box":
            if lying[move[1]] != move[2]:
                return False
            lying[move[1]] = move[3]
    return lying == [box[1] for box in boxes]


def is_yard_tour(gate, boxes, thing):
    check_yard(gate, boxes)
    if not isinstance(thing, list):
        return False
    if not all([is_go(move) or is_yard_carry(move, boxes) for move in thing]):
        return False
    return leads(gate, gate, thing) and brings_each_box(boxes, thing)


def whole_carries(boxes):
    return [("box", number, box[0], box[1]) for number, box in enumerate(boxes) if box[0] != box[1]]


def empty_moves(gate, boxes):
    moves = []
    for left, right, times in passes(gate, boxes):
        carried = crossed(boxes, (left, right))
        moves.extend([("go", left, right)] * (times - carried[0]))
        moves.extend([("go", right, left)] * (times - carried[1]))
    return moves


def arcs_of(moves):
    return [move[-2:] for move in moves]


def ends_of(moves):
    ends = []
    for move in moves:
        ends.extend(move[-2:])
    return sorted(set(ends))


def lies_amid(place, move):
    return min(move[-2:]) < place and place < max(move[-2:])


def cut_in_two(move, place):
    return [move[:3] + (place,), move[:2] + (place, move[3])]


def with_one_cut(moves, reached):
    # An empty move leads over one gap alone, so that what is cut carries a box.
    apart = [place for place in ends_of(moves) if place not in reached]
    for number, move in enumerate(moves):
        if move[-2] in reached:
            for place in apart:
                if lies_amid(place, move):
                    return moves[:number] + cut_in_two(move, place) + moves[number + 1:]
    return moves


def hung_together(gate, moves):
    # Each gap is passed, so that where not all is reached, some box is carried by a place that isn't. Set down there,
    # it lets the hook do what hangs at that place; and this hangs on the rest by the two parts of the box's way alone,
    # so that any row from the gate goes along the first part ahead of the second one.
    ends = ends_of(moves)
    reached = [gate]
    while len(reached) < len(ends):
        reached = group_of(gate, neighbours(ends, arcs_of(moves)))
        moves = with_one_cut(moves, reached)
    return moves


def yard_tour(gate, boxes):
    check_yard(gate, boxes)
    moves = hung_together(gate, whole_carries(boxes) + empty_moves(gate, boxes))
    return [moves[number] for number in row_of(gate, arcs_of(moves))]
