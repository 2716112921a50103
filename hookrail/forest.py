"""The cheapest ties: the forest of things, knots and edges, its levels, and what levels weigh."""

from hookrail.groups import groups


def cost(edge):
    return edge[2]


def group_numbers(parts):
    numbers = {}
    for number, part in enumerate(parts):
        for thing in part:
            numbers[thing] = number
    return numbers


def with_two_joined(numbers, one, other):
    joined = {}
    for thing in numbers:
        joined[thing] = one if numbers[thing] == other else numbers[thing]
    return joined


def forest(things, knots, edges):
    numbers = group_numbers(groups(things, knots))
    taken = []
    # sorted leaves edges alike in cost as they stand in the list.
    for edge in sorted(edges, key=cost):
        one = numbers[edge[0]]
        other = numbers[edge[1]]
        if one != other:
            taken.append(edge)
            numbers = with_two_joined(numbers, one, other)
    return taken


def groups_below(things, knots, edges, bound):
    cheaper = [(edge[0], edge[1]) for edge in edges if cost(edge) < bound]
    return groups(things, knots + cheaper)


def levels(things, knots, edges):
    costs = sorted(set([cost(edge) for edge in forest(things, knots, edges)]))
    return [(bound, groups_below(things, knots, edges, bound)) for bound in costs]


def weighed(levels, rest):
    total = 0
    ahead = 0
    for bound, parts in levels:
        total += (bound - ahead) * (len(parts) - rest)
        ahead = bound
    return total
