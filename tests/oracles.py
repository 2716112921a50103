"""What the document asks, reckoned in other ways than the program does, for several tests."""

import heapq
import re

from hookrail.rails import gaps, stops


def net_lacks(home, last, boxes):
    """The lack of each gap, by what lies left of it and what does not."""
    told = []
    for left, right in gaps(home, last, boxes):
        ways = [(goal, start) for start, goal in boxes] + [(home, last)]
        told.append(sum((start <= left) - (goal <= left) for start, goal in ways))
    return told


def spread(marks, ties):
    changed = True
    while changed:
        changed = False
        for one, other in ties:
            least = min(marks[one], marks[other])
            if marks[one] != least or marks[other] != least:
                marks[one] = marks[other] = least
                changed = True


def least_by_search(home, last, boxes):
    """The least length of any tour, by trying whatever the hook can do, the nearest first."""
    reached = {}
    waiting = [(0, home, 0)]
    while waiting:
        way, here, done = heapq.heappop(waiting)
        if (here, done) in reached:
            continue
        reached[(here, done)] = way
        for number, (start, goal) in enumerate(boxes):
            if not done >> number & 1:
                heapq.heappush(waiting, (way + abs(start - here) + abs(goal - start), goal, done | 1 << number))
    every = (1 << len(boxes)) - 1
    return min(way + abs(last - here) for (here, done), way in reached.items() if done == every)


def yard_least_by_search(gate, boxes, more):
    """The least length of any tour of a yard on its places and more of them, the nearest first, a gap at a time."""
    places = sorted({gate, *more, *(place for box in boxes for place in box)})
    wanted = (gate, tuple(goal for start, goal in boxes))
    reached = set()
    waiting = [(0, gate, tuple(start for start, goal in boxes))]
    while waiting:
        way, here, lying = heapq.heappop(waiting)
        if (here, lying) == wanted:
            return way
        if (here, lying) in reached:
            continue
        reached.add((here, lying))
        number = places.index(here)
        for there in places[max(number - 1, 0):number] + places[number + 1:number + 2]:
            long = way + abs(there - here)
            heapq.heappush(waiting, (long, there, lying))
            for box in range(len(boxes)):
                if lying[box] == here:
                    heapq.heappush(waiting, (long, there, lying[:box] + (there,) + lying[box + 1:]))


def counts_by_words(home, last, boxes):
    told = []
    for left, right in gaps(home, last, boxes):
        rights = sum(start <= left < goal for start, goal in boxes)
        lefts = sum(goal <= left < start for start, goal in boxes)
        told.append((left, right, rights, lefts))
    return told


def ties_below(home, last, boxes, bound):
    """The ties that a level of this bound must hold together: the knots, and the gaps that are shorter."""
    rail = gaps(home, last, boxes)
    lacking = [gap for gap, lack in zip(rail, net_lacks(home, last, boxes)) if lack]
    shorter = [(left, right) for left, right in rail if right - left < bound]
    return boxes + [(home, last)] + lacking + shorter


def parts_by(places, ties):
    """The groups of places, in the order of their least ones."""
    marks = {place: place for place in places}
    spread(marks, ties)
    parts = {}
    for place in sorted(places):
        parts.setdefault(marks[place], []).append(place)
    return list(parts.values())


def levels_by_words(home, last, boxes):
    """The levels of promise 12: the forest has an edge of a cost just where the edges of this cost join groups."""
    places = stops(home, last, boxes)
    told = []
    for bound in sorted({right - left for left, right in gaps(home, last, boxes)}):
        parts = parts_by(places, ties_below(home, last, boxes, bound))
        if len(parts_by(places, ties_below(home, last, boxes, bound + 1))) < len(parts):
            told.append((bound, parts))
    return told


def weight_by_words(home, last, boxes, thing):
    """The sum of promise 18, with the levels counted from the last one on."""
    counts, levels = thing
    total = 0
    for (left, right, rights, lefts), lack in zip(counts, net_lacks(home, last, boxes), strict=True):
        total += right * (rights + lefts + abs(lack)) - left * (rights + lefts + abs(lack))
    bounds = [0] + [bound for bound, parts in levels]
    for number in reversed(range(len(levels))):
        total += 2 * (bounds[number + 1] - bounds[number]) * (len(levels[number][1]) - 1)
    return total


def ring_stops(home, last, boxes):
    return sorted({home, last, *(place for box in boxes for place in box[:2])})


def ring_edges_by_words(size, home, last, boxes):
    """Each gap of a ring with its length, by laying the places one size farther on behind the last one."""
    places = ring_stops(home, last, boxes)
    further = places[1:] + [places[0] + size]
    return [(left, beyond % size, beyond - left) for left, beyond in zip(places, further)]


def leads_right_over(size, start, goal, left):
    """Whether the way to the right from start to goal goes over the gap that begins at left, all laid out straight."""
    end = goal if goal >= start else goal + size
    return start <= left < end or start <= left + size < end


def ring_crossed_by_words(size, boxes, left):
    rights = sum(leads_right_over(size, start, goal, left) for start, goal, way in boxes if way > 0)
    lefts = sum(leads_right_over(size, goal, start, left) for start, goal, way in boxes if way < 0)
    return (rights, lefts)


def ring_lacks_by_words(size, home, last, boxes, c):
    told = []
    for left in ring_stops(home, last, boxes):
        rights, lefts = ring_crossed_by_words(size, boxes, left)
        told.append(c + (1 if leads_right_over(size, home, last, left) else 0) - rights + lefts)
    return told


def ring_forest_by_words(home, last, boxes, edges, lacks):
    """The forest of promise 24, each edge in the order in which it is taken."""
    marks = {place: place for place in ring_stops(home, last, boxes)}
    lacking = [edge[:2] for edge, lack in zip(edges, lacks, strict=True) if lack]
    spread(marks, [box[:2] for box in boxes] + [(home, last)] + lacking)
    taken = []
    for left, right, long in sorted(edges, key=lambda edge: edge[2]):
        if marks[left] != marks[right]:
            gone, kept = marks[left], marks[right]
            marks = {place: kept if mark == gone else mark for place, mark in marks.items()}
            taken.append((left, right, long))
    return taken


def ring_weight_by_words(size, home, last, boxes, c):
    """The sum of promise 24."""
    edges = ring_edges_by_words(size, home, last, boxes)
    lacks = ring_lacks_by_words(size, home, last, boxes, c)
    total = 0
    for (left, right, long), lack in zip(edges, lacks, strict=True):
        total += long * (sum(ring_crossed_by_words(size, boxes, left)) + abs(lack))
    for left, right, long in ring_forest_by_words(home, last, boxes, edges, lacks):
        total += long + long
    return total


def steps_walked(size, start, goal, way):
    """The steps from start to goal, counted one by one."""
    count = 0
    while start != goal:
        start = (start + way) % size
        count += 1
    return count


def ring_least_by_search(size, home, last, boxes):
    """The least length of any tour of a small ring, a step or a box at a time, the nearest first."""
    ways = [steps_walked(size, *box) for box in boxes]
    wanted = (last, (1 << len(boxes)) - 1)
    reached = set()
    waiting = [(0, home, 0)]
    while waiting:
        way, here, done = heapq.heappop(waiting)
        if (here, done) == wanted:
            return way
        if (here, done) in reached:
            continue
        reached.add((here, done))
        heapq.heappush(waiting, (way + 1, (here + 1) % size, done))
        heapq.heappush(waiting, (way + 1, (here - 1) % size, done))
        for number, box in enumerate(boxes):
            if box[0] == here and not done >> number & 1:
                heapq.heappush(waiting, (way + ways[number], box[1], done | 1 << number))


NUMBER = "(?:0|-?[1-9][0-9]{0,39})"
BOX = f"{NUMBER}>{NUMBER}"
BOX_OF = {"rail": BOX, "gate": BOX, "ring": f"{BOX}[+-]"}
HEAD_OF = {"rail": f"rail {NUMBER} {NUMBER}", "gate": f"gate {NUMBER}", "ring": f"ring {NUMBER} {NUMBER} {NUMBER}"}


def box_by_words(kind, word):
    """The box that a word tells, or None."""
    if not re.fullmatch(BOX_OF[kind], word):
        return None
    start, goal = [int(number) for number in re.findall(NUMBER, word)]
    return (start, goal, 1 if word.endswith("+") else -1) if kind == "ring" else (start, goal)


def has_its_places(thing):
    kind, *head, boxes = thing
    places = [place for box in boxes for place in box[:2]]
    if kind == "gate":
        return all(place >= head[0] for place in places)
    return kind == "rail" or all(0 <= place < head[0] for place in places + head[1:])


def thing_by_words(text):
    """What a text tells, or None, by a pattern of promise 26."""
    for kind, head in HEAD_OF.items():
        found = re.fullmatch(f"({head})((?: {BOX_OF[kind]})*)", text)
        if found:
            numbers = [int(number) for number in re.findall(NUMBER, found[1])]
            thing = (kind, *numbers, [box_by_words(kind, word) for word in found[2].split()])
            return thing if has_its_places(thing) else None
    return None


def text_by_words(thing):
    kind, *head, boxes = thing
    words = [kind] + [format(number, "d") for number in head]
    for start, goal, *way in boxes:
        words.append(format(start, "d") + ">" + format(goal, "d") + {(): "", (1,): "+", (-1,): "-"}[tuple(way)])
    return " ".join(words)
