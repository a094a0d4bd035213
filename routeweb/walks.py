"""The paths along which nodes are connected, wherever the connections come from."""

from routeweb.errors import TooMany

MOST_PATHS = 500


def paths_to(heads, node, goals):
    """The ascending list of the paths from a node that end at the first goal that they meet.

    heads has, for each node that is no goal, the ascending list of the nodes that may come next.
    """
    paths = []
    waiting = [(node,)]
    while waiting:
        path = waiting.pop()
        if path[-1] in goals:
            paths.append(path)
        else:
            # What is put last is taken first, so the least head comes last.
            waiting.extend([(*path, head) for head in reversed(heads[path[-1]]) if head not in path])
    return paths


def check_few(paths):
    """Raise TooMany for more paths than a list of paths may have."""
    if len(paths) > MOST_PATHS:
        raise TooMany(MOST_PATHS)
