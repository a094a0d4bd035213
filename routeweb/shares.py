"""Traffic that is parted evenly among the next hops: ratios are pairs (numerator, denominator) in lowest terms."""

from math import gcd

from routeweb.checks import is_number, is_tuple
from routeweb.errors import BadDemands
from routeweb.graphs import check_weighted, distances_to, nearest_heads

NOTHING = (0, 1)
WHOLE = (1, 1)
MOST_DEMANDS = 12
MOST_AMOUNT = 100


def _ratio(numerator, denominator):
    common = gcd(numerator, denominator)
    return (numerator // common, denominator // common)


def _sum_of(one, other):
    return _ratio(one[0] * other[1] + other[0] * one[1], one[1] * other[1])


def _parted(graph, weights, node, goal):
    """The traffic of a node to a goal by its nodes and by its arcs: two dicts of ratios; None without a path."""
    away = distances_to(graph, weights, goal)
    if away[node] is None:
        return None
    heads = nearest_heads(graph, weights, goal)
    at = {node: WHOLE}
    on = {}
    reaching = [one for one in graph.nodes if away[one] is not None]
    # Next hops are nearer to the goal, so all that passes a node is known when its turn comes.
    for place in sorted(reaching, key=lambda one: -away[one]):
        if place in at:
            for head in heads[place]:
                part = _ratio(at[place][0], at[place][1] * len(heads[place]))
                on[(place, head)] = part
                at[head] = _sum_of(at.get(head, NOTHING), part)
    return at, on


def _ascending(ratios):
    return tuple([(arc, ratios[arc]) for arc in sorted(list(ratios))])


def shares(graph, weights, node, goal):
    """The ascending tuple of the pairs (arc, ratio) of the arcs that some traffic of a node to a goal passes."""
    check_weighted(graph, weights, (node, goal))
    parted = _parted(graph, weights, node, goal)
    return () if parted is None else _ascending(parted[1])


def shares_at(graph, weights, node, goal, place):
    """The ratio of the traffic of a node to a goal that passes a place."""
    check_weighted(graph, weights, (node, goal, place))
    parted = _parted(graph, weights, node, goal)
    return NOTHING if parted is None else parted[0].get(place, NOTHING)


def _is_demand(graph, value):
    if not is_tuple(value, 3, 3):
        return False
    node, goal, amount = value
    last = len(graph.nodes) - 1
    return is_number(node, 0, last) and is_number(goal, 0, last) and node != goal and is_number(amount, 1, MOST_AMOUNT)


def _check_demands(graph, demands):
    if not is_tuple(demands, 0, MOST_DEMANDS):
        raise BadDemands(None)
    for index, demand in enumerate(demands):
        if not _is_demand(graph, demand):
            raise BadDemands(index)


def loads(graph, weights, demands):
    """The ascending tuple of the pairs (arc, ratio) of the sums for all demands, None if one has no path."""
    check_weighted(graph, weights, ())
    _check_demands(graph, demands)
    total = {}
    for node, goal, amount in demands:
        parted = _parted(graph, weights, node, goal)
        if parted is None:
            return None
        on = parted[1]
        for arc in on:
            total[arc] = _sum_of(total.get(arc, NOTHING), _ratio(on[arc][0] * amount, on[arc][1]))
    return _ascending(total)
