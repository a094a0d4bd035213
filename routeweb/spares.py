"""Spare ways for a node that loses a neighbor or an arc."""

from routeweb.errors import BadNode
from routeweb.graphs import Graph, check_node, check_weighted, distance, distances_to, nearest_paths, next_hops


def _check_goal(graph, weights, node, goal):
    check_weighted(graph, weights, (node, goal))
    if goal == node:
        raise BadNode("the goal is the node itself")


def _check_ends(graph, weights, node, neighbor, goal):
    check_weighted(graph, weights, (node, neighbor))
    if (node, neighbor) not in graph.arcs:
        raise BadNode("no arc leads from the node to the neighbor")
    _check_goal(graph, weights, node, goal)


def _avoids_node(graph, weights, node, goal, lost):
    """Whether there is a path from a node to a goal, and no least one passes a lost node."""
    paths = nearest_paths(graph, weights, node, goal)
    return len(paths) > 0 and all([lost not in path for path in paths])


def _avoids_arcs(graph, weights, node, goal, lost):
    """Whether there is a path from a node to a goal, and no least one passes one of the lost arcs."""
    paths = nearest_paths(graph, weights, node, goal)
    passed = [arc for path in paths for arc in zip(path, path[1:])]
    return len(paths) > 0 and not any([arc in passed for arc in lost])


def is_spare(graph, weights, node, neighbor, goal):
    """Whether a neighbor has a path to a goal, and none of its least ones passes the node."""
    _check_ends(graph, weights, node, neighbor, goal)
    return _avoids_node(graph, weights, neighbor, goal, node)


def spares(graph, weights, node, goal):
    """The ascending tuple of the spares of a node that are no next hops of it."""
    _check_goal(graph, weights, node, goal)
    hops = next_hops(graph, weights, node, goal)
    others = [head for tail, head in graph.arcs if tail == node and head not in hops]
    return tuple([neighbor for neighbor in others if is_spare(graph, weights, node, neighbor, goal)])


def is_node_spare(graph, weights, node, neighbor, lost, goal):
    """Whether a neighbor is a spare, and none of its least paths passes a lost node either."""
    _check_ends(graph, weights, node, neighbor, goal)
    check_node(graph, lost)
    if lost in (node, neighbor, goal):
        raise BadNode("the lost node is one of the others")
    return is_spare(graph, weights, node, neighbor, goal) and _avoids_node(graph, weights, neighbor, goal, lost)


def remote_spares(graph, weights, node, neighbor, goal):
    """The ascending tuple of the nodes to which the node, and from which the goal, is reached without the arc."""
    _check_ends(graph, weights, node, neighbor, goal)
    lost = ((node, neighbor),)
    reached = [place for place in graph.nodes if _avoids_arcs(graph, weights, node, place, lost)]
    return tuple([place for place in reached if _avoids_arcs(graph, weights, place, goal, lost)])


def _weights_without(graph, weights, lost):
    """The weights by the arcs, but those that are lost, in their order."""
    return {arc: weight for arc, weight in zip(graph.arcs, weights) if arc not in lost}


def distance_without(graph, weights, one, other, node, goal):
    """The distance in the graph without the arcs between two nodes, None without a path."""
    check_weighted(graph, weights, (one, other, node, goal))
    weight_of = _weights_without(graph, weights, ((one, other), (other, one)))
    smaller = Graph(len(graph.nodes), tuple(weight_of))
    return distances_to(smaller, list(weight_of.values()), goal)[node]


def by_two(graph, weights, one, other, node, goal):
    """The least pair (m, n), equal or ends of an arc, by which least paths lead on without the arcs between two nodes.

    A least path from the node to m, the arc, and one from n to the goal are as long as distance_without; no
    least path of the whole graph from the node to m, or from n to the goal, passes an arc between the two nodes.
    """
    wanted = distance_without(graph, weights, one, other, node, goal)
    lost = ((one, other), (other, one))
    weight_of = _weights_without(graph, weights, lost)
    begins = [place for place in graph.nodes if _avoids_arcs(graph, weights, node, place, lost)]
    ends = [place for place in graph.nodes if _avoids_arcs(graph, weights, place, goal, lost)]
    for begin in begins:
        for end in ends:
            if begin == end or (begin, end) in weight_of:
                length = distance(graph, weights, node, begin) + distance(graph, weights, end, goal)
                if length + weight_of.get((begin, end), 0) == wanted:
                    return (begin, end)
    return None
