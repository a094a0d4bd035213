"""The paths along which nodes are connected, wherever the connections come from."""

from routeweb.errors import TooMany

MOST_PATHS = 500


def paths_to(heads, node, goals):
    """The ascending list of the paths from a node that end at the first goal that they meet.

    heads has, for each node that is no goal, the ascending list of the nodes that may come next.
    """
    paths = []
    waiting = [(node,)]
    while waiting:
        path = waiting.pop()
        if path[-1] in goals:
            paths.append(path)
        else:
            # What is put last is taken first, so the least head comes last.
            waiting.extend([(*path, head) for head in reversed(heads[path[-1]]) if head not in path])
    return paths


def check_few(paths):
    """Raise TooMany for more paths than a list of paths may have."""
    if len(paths) > MOST_PATHS:
        raise TooMany(MOST_PATHS)


def ring_among(heads):
    """A tuple of nodes, each with the next one among its heads, the last one the first one again; None without any."""
    left = list(heads)
    ends = left
    while ends:
        ends = [node for node in left if not [head for head in heads[node] if head in left]]
        left = [node for node in left if node not in ends]
    if not left:
        return None
    # Each node that is left has a head that is left, so that the walk does not end.
    walk = [left[0]]
    while walk.count(walk[-1]) == 1:
        walk.append([head for head in heads[walk[-1]] if head in left][0])
    return tuple(walk[walk.index(walk[-1]):])


def knots_among(heads):
    """The list of the knots: lists of all nodes that can be reached from each other; each node is in one of them."""
    tails = {node: [] for node in heads}
    for node in heads:
        for head in heads[node]:
            tails[head].append(node)
    knots = []
    seen = {}
    # Taken in this order, what can reach a node and is not seen yet can also be reached from it.
    for root in reversed(_left_last(heads)):
        if root not in seen:
            knots.append(_unseen_from(tails, root, seen))
    return knots


def _left_last(heads):
    """All nodes, each behind those that were first seen on ways from it."""
    order = []
    seen = {}
    waiting = [(node, False) for node in heads]
    while waiting:
        node, is_left = waiting.pop()
        if is_left:
            order.append(node)
        elif node not in seen:
            seen[node] = True
            waiting.append((node, True))
            waiting.extend([(head, False) for head in heads[node]])
    return order


def _unseen_from(heads, root, seen):
    """The list of the nodes that can be reached from a root by unseen ones; they are seen then."""
    found = []
    waiting = [root]
    while waiting:
        node = waiting.pop()
        if node not in seen:
            seen[node] = True
            found.append(node)
            waiting.extend(heads[node])
    return found
