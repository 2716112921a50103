"""Rails that come round: what is a ring's errand, its gaps and lacks, and what it weighs for a number of turns."""

from hookrail.errors import NoRing
from hookrail.forest import cost, forest
from hookrail.rails import is_whole, stops


def is_way(thing):
    return is_whole(thing) and thing in (1, -1)


def has_place(size, thing):
    return is_whole(thing) and thing >= 0 and thing < size


def is_ring_box(size, thing):
    if not isinstance(thing, tuple) or len(thing) != 3:
        return False
    return has_place(size, thing[0]) and has_place(size, thing[1]) and is_way(thing[2])


def is_ring(size, home, last, boxes):
    # A ring that has a place is of size 1 at least.
    if not is_whole(size) or not has_place(size, home) or not has_place(size, last):
        return False
    return isinstance(boxes, list) and all([is_ring_box(size, box) for box in boxes])


def check_ring(size, home, last, boxes):
    if not is_ring(size, home, last, boxes):
        raise NoRing("home, last and the boxes' places must be from 0 on below size, and each box's way 1 or -1")


def without_ways(boxes):
    return [box[:2] for box in boxes]


def steps(size, start, goal, way):
    return (goal - start) * way % size


def ring_gaps(size, home, last, boxes):
    check_ring(size, home, last, boxes)
    places = stops(home, last, without_ways(boxes))
    return list(zip(places, places[1:] + places[:1]))


def gap_length(size, gap):
    # The gap of one stop alone leads once round, though there are no steps from a place to itself.
    return size if gap[0] == gap[1] else steps(size, gap[0], gap[1], 1)


def ring_edges(size, home, last, boxes):
    return [gap + (gap_length(size, gap),) for gap in ring_gaps(size, home, last, boxes)]


def goes_over(size, start, goal, gap):
    # The way to the right from start to goal; where they are one there is none.
    return steps(size, start, gap[0], 1) < steps(size, start, goal, 1)


def bare_lack(size, home, last, boxes, gap):
    own = 1 if goes_over(size, home, last, gap) else 0
    rights = [box for box in boxes if box[2] == 1 and goes_over(size, box[0], box[1], gap)]
    lefts = [box for box in boxes if box[2] == -1 and goes_over(size, box[1], box[0], gap)]
    return own - len(rights) + len(lefts)


def ring_lacks(size, home, last, boxes, c):
    return [c + bare_lack(size, home, last, boxes, gap) for gap in ring_gaps(size, home, last, boxes)]


def ring_forest(home, last, boxes, edges, lacks):
    lacking = [edge[:2] for edge, lack in zip(edges, lacks) if lack != 0]
    # Each stop is the left side of just one gap.
    places = [edge[0] for edge in edges]
    return forest(places, without_ways(boxes) + [(home, last)] + lacking, edges)


def empty_weight(home, last, boxes, edges, lacks):
    crossings = [cost(edge) * abs(lack) for edge, lack in zip(edges, lacks)]
    return sum(crossings) + 2 * sum([cost(edge) for edge in ring_forest(home, last, boxes, edges, lacks)])


def turns(size, home, last, boxes):
    edges = ring_edges(size, home, last, boxes)
    # Whatever the turns, only c is added to these lacks, and the boxes' own ways stay as long as they are.
    bare = ring_lacks(size, home, last, boxes, 0)
    loaded = sum([steps(size, start, goal, way) for start, goal, way in boxes])
    told = []
    for c in range(-1 - max(bare), 2 - min(bare)):
        lacks = [lack + c for lack in bare]
        told.append((c, loaded + empty_weight(home, last, boxes, edges, lacks)))
    return told


def ring_least(size, home, last, boxes):
    return min([weight for c, weight in turns(size, home, last, boxes)])
