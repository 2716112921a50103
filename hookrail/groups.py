"""What hangs together: the groups of things by ties, and the ties that an errand makes."""

from hookrail.counts import lacks
from hookrail.rails import gaps


def neighbours(things, ties):
    beside = {}
    for thing in things:
        beside[thing] = []
    for tie in ties:
        beside[tie[0]].append(tie[1])
        beside[tie[1]].append(tie[0])
    return beside


def group_of(thing, beside):
    found = {thing: True}
    waiting = [thing]
    # A list of those waiting, not a recursion: a chain of things may be longer than calls may go deep.
    while waiting:
        here = waiting.pop()
        for other in beside[here]:
            if other not in found:
                found[other] = True
                waiting.append(other)
    return sorted(found)


def groups(things, ties):
    beside = neighbours(things, ties)
    grouped = {}
    told = []
    # Begun from the least thing left, each group comes in the order of its least thing.
    for thing in sorted(things):
        if thing not in grouped:
            group = group_of(thing, beside)
            told.append(group)
            for member in group:
                grouped[member] = True
    return told


def knots(home, last, boxes):
    lacking = [gap for gap, lack in zip(gaps(home, last, boxes), lacks(home, last, boxes)) if lack != 0]
    return list(boxes) + [(home, last)] + lacking
