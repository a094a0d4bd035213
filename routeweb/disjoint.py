"""Paths without a common arc, the arcs that stand in the way of more, and the nearest paths in their order."""

from routeweb.checks import is_number
from routeweb.errors import BadNode, BadNumber
from routeweb.graphs import all_paths, check_graph, check_node, check_weighted
from routeweb.walks import MOST_PATHS


def _check_unlike(node, goal):
    if node == goal:
        raise BadNode("the goal is the node itself")


def _moves(graph, weights, used):
    """The list of the (from, to, cost, arc) that are left: along each arc that is not used, back along the others."""
    moves = []
    for (tail, head), weight in zip(graph.arcs, weights):
        if (tail, head) in used:
            moves.append((head, tail, -weight, (tail, head)))
        else:
            moves.append((tail, head, weight, (tail, head)))
    return moves


def _ways(graph, weights, used, node):
    """For each node that can be reached by the moves that are left the least: the pair (cost, arcs passed)."""
    moves = _moves(graph, weights, used)
    ways = {node: (0, ())}
    is_changed = True
    while is_changed:
        is_changed = False
        for place, after, cost, arc in moves:
            if place in ways and (after not in ways or ways[place][0] + cost < ways[after][0]):
                ways[after] = (ways[place][0] + cost, (*ways[place][1], arc))
                is_changed = True
    return ways


def _least_used(graph, weights, node, goal, most):
    """The arcs of as many paths as there are, but at most so many, no arc in two of them, with the least sum.

    Each way to the goal by the moves that are left makes one path more. As it is the least one, the sum stays
    the least, and no ring is among the arcs, as all weights are above 0.
    """
    used = ()
    for _ in range(most):
        ways = _ways(graph, weights, used, node)
        if goal not in ways:
            return used
        used = tuple([arc for arc in graph.arcs if (arc in used) != (arc in ways[goal][1])])
    return used


def _paths_of(graph, used, node, goal):
    """The ascending tuple of the paths from a node to a goal whose arcs are those that are used."""
    heads = {place: [head for tail, head in used if tail == place] for place in graph.nodes}
    paths = []
    while heads[node]:
        path = [node]
        # As many arcs leave each place between as lead to it.
        while path[-1] != goal:
            path.append(heads[path[-1]].pop())
        paths.append(tuple(path))
    return tuple(sorted(paths))


def disjoint_paths(graph, node, goal):
    """The pair of as many paths as there are without a common arc, and of as many arcs without which there is none."""
    check_graph(graph)
    check_node(graph, node)
    check_node(graph, goal)
    _check_unlike(node, goal)
    weights = (1,) * len(graph.arcs)
    used = _least_used(graph, weights, node, goal, len(graph.nodes))
    reached = _ways(graph, weights, used, node)
    cut = [(tail, head) for tail, head in graph.arcs if tail in reached and head not in reached]
    return _paths_of(graph, used, node, goal), tuple(cut)


def least_disjoint(graph, weights, node, goal, many):
    """The pair (sum, paths) of so many paths without a common arc, with the least sum; None if there are less."""
    check_weighted(graph, weights, (node, goal))
    _check_unlike(node, goal)
    if not is_number(many, 1, len(graph.nodes)):
        raise BadNumber("no number from 1 to the size")
    used = _least_used(graph, weights, node, goal, many)
    paths = _paths_of(graph, used, node, goal)
    if len(paths) < many:
        return None
    return sum([weight for arc, weight in zip(graph.arcs, weights) if arc in used]), paths


def nearest_many(graph, weights, node, goal, many):
    """The tuple of the first so many paths, by their sums of weights, then ascending."""
    check_weighted(graph, weights, (node, goal))
    if not is_number(many, 1, MOST_PATHS):
        raise BadNumber("no number from 1 to 500")
    weight_of = dict(zip(graph.arcs, weights))
    ranked = []
    for path in all_paths(graph, node, goal):
        ranked.append((sum([weight_of[arc] for arc in zip(path, path[1:])]), path))
    return tuple([path for _, path in sorted(ranked)[:many]])
