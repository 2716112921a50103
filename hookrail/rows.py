"""Rows of arcs: an order in which all arcs are gone along one behind the other, back to the place to begin at."""

from hookrail.errors import NoRow


def numbers_by_start(arcs):
    numbers = {}
    for number, arc in enumerate(arcs):
        numbers.setdefault(arc[0], []).append(number)
    return numbers


def as_many_begin_as_end(arcs):
    return sorted([arc[0] for arc in arcs]) == sorted([arc[1] for arc in arcs])


def round_from(start, arcs):
    # Goes on until it is stuck, then back along its trail; whatever round is found on the way back is gone first.
    # Where as many arcs begin as end at each place it can be stuck only where it began, so each round closes.
    waiting = numbers_by_start(arcs)
    trail = []
    backwards = []
    here = start
    while trail or waiting.get(here, []):
        if waiting.get(here, []):
            number = waiting[here].pop()
            trail.append(number)
            here = arcs[number][1]
        else:
            number = trail.pop()
            backwards.append(number)
            here = arcs[number][0]
    return list(reversed(backwards))


def row_of(start, arcs):
    if not as_many_begin_as_end(arcs):
        raise NoRow("at some place not as many arcs begin as end")
    row = round_from(start, arcs)
    # The round goes along all that hangs together with its place: an arc that it lacks hangs elsewhere.
    if len(row) != len(arcs):
        raise NoRow("the place and the places of all arcs must hang together by the arcs")
    return row


def row_between(home, last, arcs):
    # An arc from last back to home closes the row to a round. A round has no first arc,
    # so it may be told from behind this arc on, and without it: from home to last.
    row = row_of(home, arcs + [(last, home)])
    cut = row.index(len(arcs))
    return row[cut + 1:] + row[:cut]
