"""How often a gap is crossed: by the boxes, and how often more by the empty hook."""

from hookrail.rails import gaps


def leads_over(start, goal, gap):
    return start <= gap[0] and gap[1] <= goal


def crossed(boxes, gap):
    rights = [box for box in boxes if leads_over(box[0], box[1], gap)]
    lefts = [box for box in boxes if leads_over(box[1], box[0], gap)]
    return (len(rights), len(lefts))


def lack(home, last, boxes, gap):
    # The hook's whole way leads over a gap as a box from home to last would.
    own = crossed([(home, last)], gap)
    carried = crossed(boxes, gap)
    return own[0] - own[1] - carried[0] + carried[1]


def lacks(home, last, boxes):
    return [lack(home, last, boxes, gap) for gap in gaps(home, last, boxes)]
