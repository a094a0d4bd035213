"""Paths with two costs, and those that no other path beats."""

from routeweb.checks import are_numbers, is_number, is_tuple
from routeweb.errors import BadCosts, BadNumber
from routeweb.graphs import all_paths, check_graph, check_node

MOST_COST = 100
MOST_BOUND = 1000
# A path of a graph has at most seven arcs.
MOST_SUM = 700


def _check_question(graph, costs, node, goal):
    check_graph(graph)
    if not is_tuple(costs, len(graph.arcs), len(graph.arcs)):
        raise BadCosts(None)
    for index, pair in enumerate(costs):
        if not are_numbers(pair, 1, MOST_COST) or len(pair) != 2:
            raise BadCosts(index)
    check_node(graph, node)
    check_node(graph, goal)


def _paths_by_sums(graph, costs, node, goal):
    """A path for each pair of sums that a path has."""
    cost_of = dict(zip(graph.arcs, costs))
    path_of = {}
    for path in all_paths(graph, node, goal):
        passed = [cost_of[arc] for arc in zip(path, path[1:])]
        path_of[(sum([first for first, _ in passed]), sum([second for _, second in passed]))] = path
    return path_of


def _unbeaten(pairs):
    """The ascending list of the pairs of sums that no other one beats."""
    kept = []
    for pair in sorted(pairs):
        # All pairs ahead are no greater in the first sum, and the last one kept has the least second one of them.
        if not kept or pair[1] < kept[-1][1]:
            kept.append(pair)
    return kept


def front(graph, costs, node, goal):
    """The ascending tuple of the pairs of sums of paths that no path beats."""
    _check_question(graph, costs, node, goal)
    return tuple(_unbeaten(list(_paths_by_sums(graph, costs, node, goal))))


def front_path(graph, costs, node, goal, pair):
    """A path with a pair of the front, None for any value that is none."""
    _check_question(graph, costs, node, goal)
    path_of = _paths_by_sums(graph, costs, node, goal)
    # (False, False) == (0, 0) in Python, so the items are looked at first.
    if not are_numbers(pair, 0, MOST_SUM) or pair not in _unbeaten(list(path_of)):
        return None
    return path_of[pair]


def least_within(graph, costs, node, goal, bound):
    """The least first sum of a path whose second sum is at most a bound, None if there is none."""
    _check_question(graph, costs, node, goal)
    if not is_number(bound, 0, MOST_BOUND):
        raise BadNumber("no bound from 0 to 1000")
    sums = list(_paths_by_sums(graph, costs, node, goal))
    return min([first for first, second in sums if second <= bound], default=None)
