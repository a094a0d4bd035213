"""Segments that lead along least paths and arcs."""

from routeweb.checks import are_numbers, are_unlike, is_number, is_tuple
from routeweb.errors import BadPath, BadSegments
from routeweb.graphs import check_weighted, nearest_paths

TO = "to"
OVER = "over"


def _way(graph, weights, place, segment):
    """The path along which a segment leads from a place; None if it leads nowhere, and for a value that is none."""
    if not is_tuple(segment, 2, 2) or segment[0] not in (TO, OVER):
        return None
    word, goal = segment
    if not is_number(goal, 0, len(graph.nodes) - 1):
        return None
    if word == OVER:
        return (place, goal) if (place, goal) in graph.arcs else None
    paths = nearest_paths(graph, weights, place, goal)
    return paths[0] if len(paths) == 1 else None


def led(graph, weights, node, segments):
    """The tuple of the nodes along which segments lead from a node."""
    check_weighted(graph, weights, (node,))
    if not isinstance(segments, tuple):
        raise BadSegments(None)
    passed = (node,)
    for index, segment in enumerate(segments):
        way = _way(graph, weights, passed[-1], segment)
        if way is None:
            raise BadSegments(index)
        passed += way[1:]
    return passed


def _is_path(graph, value):
    if not are_numbers(value, 0, len(graph.nodes) - 1) or len(value) == 0 or not are_unlike(value):
        return False
    return all([arc in graph.arcs for arc in zip(value, value[1:])])


def least_segments(graph, weights, path):
    """A tuple of as few segments as can be that lead along a path."""
    check_weighted(graph, weights, ())
    if not _is_path(graph, path):
        raise BadPath("no path of the graph")
    # For each node of the path the fewest segments that lead up to it.
    fewest = [()]
    for end in range(1, len(path)):
        ways = [(*fewest[begin], _segment(graph, weights, path[begin:end + 1])) for begin in range(end)]
        fewest.append(min([way for way in ways if way[-1] is not None], key=len))
    return fewest[-1]


def _segment(graph, weights, path):
    """A segment that leads along a path of two nodes or more, None without any."""
    for segment in ((TO, path[-1]), (OVER, path[-1])):
        if _way(graph, weights, path[0], segment) == path:
            return segment
    return None
