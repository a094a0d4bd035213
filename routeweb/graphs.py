"""Graphs of up to eight nodes, their paths, and the least of these by weights."""

from routeweb.checks import are_numbers, is_number, is_tuple
from routeweb.errors import BadGraph, BadNode, BadWeights, NoLink, NotGraph
from routeweb.walks import check_few, paths_to

MOST_NODES = 8
MOST_ARCS = 64
MOST_WEIGHT = 100


class Graph:
    """The nodes 0 to size - 1, and arcs: pairs (tail, head) of unlike nodes."""

    def __init__(self, size, arcs):
        if not is_number(size, 1, MOST_NODES) or not is_tuple(arcs, 0, MOST_ARCS):
            raise BadGraph(None)
        for index, arc in enumerate(arcs):
            if not _is_arc(size, arc) or arc in arcs[:index]:
                raise BadGraph(index)
        self._nodes = tuple(range(size))
        self._arcs = tuple(sorted(arcs))

    @property
    def nodes(self):
        """The tuple of the nodes."""
        return self._nodes

    @property
    def arcs(self):
        """The ascending tuple of the arcs."""
        return self._arcs

    def __eq__(self, other):
        return isinstance(other, Graph) and self._nodes == other._nodes and self._arcs == other._arcs


def _is_arc(size, value):
    return are_numbers(value, 0, size - 1) and len(value) == 2 and value[0] != value[1]


def graph_of(size, weight_of):
    """The pair (graph, weights) of so many nodes and a dict of the weights by the arcs."""
    arcs = tuple(sorted(list(weight_of)))
    return Graph(size, arcs), tuple([weight_of[arc] for arc in arcs])


def check_graph(graph):
    """Raise NotGraph for a value that is no graph."""
    if not isinstance(graph, Graph):
        raise NotGraph("no graph")


def check_node(graph, node):
    """Raise BadNode for a value that is no node of a graph."""
    if not is_number(node, 0, len(graph.nodes) - 1):
        raise BadNode("no node of the graph")


def check_weights(graph, weights):
    """Raise BadWeights for a value that is no weights of a graph."""
    if not is_tuple(weights, len(graph.arcs), len(graph.arcs)):
        raise BadWeights(None)
    for index, weight in enumerate(weights):
        if not is_number(weight, 1, MOST_WEIGHT):
            raise BadWeights(index)


def check_weighted(graph, weights, nodes):
    """Raise the error of the first value that is no graph, no weights of it, or none of its nodes."""
    check_graph(graph)
    check_weights(graph, weights)
    for node in nodes:
        check_node(graph, node)


def check_link(graph, arcs, node, neighbor):
    """Raise BadNode for a value that is no node of a graph, NoLink if there is no arc from the node to the neighbor.

    The arcs are those of the graph, or those that are left of them.
    """
    check_node(graph, node)
    check_node(graph, neighbor)
    if (node, neighbor) not in arcs:
        raise NoLink("no arc leads from the node to the neighbor")


def simple_paths(graph, node, goal):
    """The ascending list of the paths from a node to a goal."""
    check_graph(graph)
    check_node(graph, node)
    check_node(graph, goal)
    paths = all_paths(graph, node, goal)
    check_few(paths)
    return paths


def all_paths(graph, node, goal):
    """The ascending list of the paths from a node to a goal, however many there are."""
    heads = {place: [head for tail, head in graph.arcs if tail == place] for place in graph.nodes}
    return paths_to(heads, node, (goal,))


def distances_to(graph, weights, goal):
    """The list of the distances of all nodes to a goal, None for those without a path."""
    away = [None] * len(graph.nodes)
    away[goal] = 0
    changed = True
    while changed:
        changed = False
        for (tail, head), weight in zip(graph.arcs, weights):
            if away[head] is not None and (away[tail] is None or away[head] + weight < away[tail]):
                away[tail] = away[head] + weight
                changed = True
    return away


def nearest_heads(graph, weights, goal):
    """For each node the ascending list of the second nodes of its least paths to a goal."""
    away = distances_to(graph, weights, goal)
    heads = {node: [] for node in graph.nodes}
    for (tail, head), weight in zip(graph.arcs, weights):
        if away[head] is not None and away[head] + weight == away[tail]:
            heads[tail].append(head)
    return heads


def distance(graph, weights, node, goal):
    """The least sum of the weights of a path from a node to a goal, None without a path."""
    check_weighted(graph, weights, (node, goal))
    return distances_to(graph, weights, goal)[node]


def nearest_paths(graph, weights, node, goal):
    """The ascending list of the paths with the least sum of weights."""
    check_weighted(graph, weights, (node, goal))
    paths = paths_to(nearest_heads(graph, weights, goal), node, (goal,))
    # With eight nodes there are at most 64 least paths; the limit is kept for what the document says.
    check_few(paths)
    return paths


def next_hops(graph, weights, node, goal):
    """The ascending tuple of the second nodes of the least paths."""
    check_weighted(graph, weights, (node, goal))
    return tuple(nearest_heads(graph, weights, goal)[node])
