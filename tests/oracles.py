"""What the document asks, reckoned in other ways than the program does, for several tests."""

import heapq

from hookrail.rails import gaps, stops


def net_lacks(home, last, boxes):
    """The lack of each gap, by what lies left of it and what does not."""
    told = []
    for left, right in gaps(home, last, boxes):
        ways = [(goal, start) for start, goal in boxes] + [(home, last)]
        told.append(sum((start <= left) - (goal <= left) for start, goal in ways))
    return told


def spread(marks, ties):
    changed = True
    while changed:
        changed = False
        for one, other in ties:
            least = min(marks[one], marks[other])
            if marks[one] != least or marks[other] != least:
                marks[one] = marks[other] = least
                changed = True


def least_by_search(home, last, boxes):
    """The least length of any tour, by trying whatever the hook can do, the nearest first."""
    reached = {}
    waiting = [(0, home, 0)]
    while waiting:
        way, here, done = heapq.heappop(waiting)
        if (here, done) in reached:
            continue
        reached[(here, done)] = way
        for number, (start, goal) in enumerate(boxes):
            if not done >> number & 1:
                heapq.heappush(waiting, (way + abs(start - here) + abs(goal - start), goal, done | 1 << number))
    every = (1 << len(boxes)) - 1
    return min(way + abs(last - here) for (here, done), way in reached.items() if done == every)


def yard_least_by_search(gate, boxes, more):
    """The least length of any tour of a yard on its places and more of them, the nearest first, a gap at a time."""
    places = sorted({gate, *more, *(place for box in boxes for place in box)})
    wanted = (gate, tuple(goal for start, goal in boxes))
    reached = set()
    waiting = [(0, gate, tuple(start for start, goal in boxes))]
    while waiting:
        way, here, lying = heapq.heappop(waiting)
        if (here, lying) == wanted:
            return way
        if (here, lying) in reached:
            continue
        reached.add((here, lying))
        number = places.index(here)
        for there in places[max(number - 1, 0):number] + places[number + 1:number + 2]:
            long = way + abs(there - here)
            heapq.heappush(waiting, (long, there, lying))
            for box in range(len(boxes)):
                if lying[box] == here:
                    heapq.heappush(waiting, (long, there, lying[:box] + (there,) + lying[box + 1:]))


def counts_by_words(home, last, boxes):
    told = []
    for left, right in gaps(home, last, boxes):
        rights = sum(start <= left < goal for start, goal in boxes)
        lefts = sum(goal <= left < start for start, goal in boxes)
        told.append((left, right, rights, lefts))
    return told


def ties_below(home, last, boxes, bound):
    """The ties that a level of this bound must hold together: the knots, and the gaps that are shorter."""
    rail = gaps(home, last, boxes)
    lacking = [gap for gap, lack in zip(rail, net_lacks(home, last, boxes)) if lack]
    shorter = [(left, right) for left, right in rail if right - left < bound]
    return boxes + [(home, last)] + lacking + shorter


def parts_by(places, ties):
    """The groups of places, in the order of their least ones."""
    marks = {place: place for place in places}
    spread(marks, ties)
    parts = {}
    for place in sorted(places):
        parts.setdefault(marks[place], []).append(place)
    return list(parts.values())


def levels_by_words(home, last, boxes):
    """The levels of promise 12: the forest has an edge of a cost just where the edges of this cost join groups."""
    places = stops(home, last, boxes)
    told = []
    for bound in sorted({right - left for left, right in gaps(home, last, boxes)}):
        parts = parts_by(places, ties_below(home, last, boxes, bound))
        if len(parts_by(places, ties_below(home, last, boxes, bound + 1))) < len(parts):
            told.append((bound, parts))
    return told


def weight_by_words(home, last, boxes, thing):
    """The sum of promise 18, with the levels counted from the last one on."""
    counts, levels = thing
    total = 0
    for (left, right, rights, lefts), lack in zip(counts, net_lacks(home, last, boxes), strict=True):
        total += right * (rights + lefts + abs(lack)) - left * (rights + lefts + abs(lack))
    bounds = [0] + [bound for bound, parts in levels]
    for number in reversed(range(len(levels))):
        total += 2 * (bounds[number + 1] - bounds[number]) * (len(levels[number][1]) - 1)
    return total
