"""Updates of next hops in rounds, and the rings and ways around a guard that may arise meanwhile."""

from itertools import combinations

from routeweb.checks import are_numbers, is_number, is_tuple
from routeweb.errors import BadNode, BadRounds, BadTree
from routeweb.walks import paths_to, ring_among

MOST_HOPS = 7


def _depth(hops, node):
    """How many steps hops lead from a node to node 0, None if they do not lead to it."""
    place = node
    # Whoever is not there after a step for each node is in a ring.
    for depth in range(len(hops) + 1):
        if place == 0:
            return depth
        place = hops[place - 1]
    return None


def _check_tree(hops, least, most):
    if not is_tuple(hops, least, most):
        raise BadTree(None)
    for index, hop in enumerate(hops):
        if not is_number(hop, 0, len(hops)) or hop == index + 1:
            raise BadTree(index)
    for index in range(len(hops)):
        if _depth(hops, index + 1) is None:
            raise BadTree(index)


def _check_trees(old, new):
    _check_tree(old, 0, MOST_HOPS)
    _check_tree(new, len(old), len(old))


def _is_round(many, value):
    return are_numbers(value, 1, many) and list(value) == sorted(set(value))


def _check_rounds(many, done, now):
    if not _is_round(many, done):
        raise BadRounds(0)
    if not _is_round(many, now) or any([node in done for node in now]):
        raise BadRounds(1)


def _heads_at(old, new, done, now):
    """For each node the nodes to which it is led at some moments of a round."""
    heads = {0: []}
    for node, (before, after) in enumerate(zip(old, new), start=1):
        if node in now:
            heads[node] = sorted(set([before, after]))
        else:
            heads[node] = [after if node in done else before]
    return heads


def _differing(old, new):
    """The ascending list of the nodes whose hops differ."""
    return [node for node in range(1, len(old) + 1) if old[node - 1] != new[node - 1]]


def _ring(old, new, done, now):
    # Each node has one hop in a ring or on a way, so at one of the moments all nodes of it have these hops.
    return ring_among(_heads_at(old, new, done, now))


def ring_of_round(old, new, done, now):
    """A tuple of nodes, each led to the next one at some moments, the last one being the first; None without any."""
    _check_trees(old, new)
    _check_rounds(len(old), done, now)
    return _ring(old, new, done, now)


def depth_rounds(old, new):
    """The tuple of the rounds of nodes whose hops differ, by their new steps to node 0, few first."""
    _check_trees(old, new)
    nodes = _differing(old, new)
    depths = sorted(set([_depth(new, node) for node in nodes]))
    return tuple([tuple([node for node in nodes if _depth(new, node) == depth]) for depth in depths])


def _fewest_rounds(nodes, is_safe):
    """A tuple of as few nonempty rounds of all nodes as can be, each of them safe; None without any.

    is_safe is asked of what is done ahead of a round, and of the round.
    """
    rounds_to = {(): ()}
    waiting = [()]
    while waiting:
        # What comes first has the fewest rounds, and no later one finds fewer.
        done = waiting.pop(0)
        left = [node for node in nodes if node not in done]
        if not left:
            return rounds_to[done]
        for many in range(1, len(left) + 1):
            for now in combinations(left, many):
                after = tuple(sorted(done + now))
                if after not in rounds_to and is_safe(done, now):
                    rounds_to[after] = (*rounds_to[done], now)
                    waiting.append(after)
    return None


def least_rounds(old, new):
    """A tuple of as few rounds as can be, of all nodes whose hops differ, none of which can make a ring."""
    _check_trees(old, new)
    return _fewest_rounds(_differing(old, new), lambda done, now: _ring(old, new, done, now) is None)


def _bypass(old, new, done, now, start, guard):
    """A way from start to node 0 without the guard at some moments of a round, None without any."""
    if start == guard:
        return None
    heads = _heads_at(old, new, done, now)
    free = {node: [head for head in heads[node] if head != guard] for node in heads}
    ways = paths_to(free, start, (0,))
    return ways[0] if ways else None


def _check_guard(many, start, guard):
    if not is_number(start, 1, many) or not is_number(guard, 1, many):
        raise BadNode("no node from 1 on")


def bypass_of_round(old, new, done, now, start, guard):
    """A tuple of unlike nodes from start to node 0 without the guard, each led to the next one at some moments.

    None without any, and if start is the guard.
    """
    _check_trees(old, new)
    _check_rounds(len(old), done, now)
    _check_guard(len(old), start, guard)
    return _bypass(old, new, done, now, start, guard)


def guarded_rounds(old, new, start, guard):
    """Rounds as least_rounds has them, but also without a way around the guard at any time; None without any."""
    _check_trees(old, new)
    _check_guard(len(old), start, guard)

    def is_safe(done, now):
        return _ring(old, new, done, now) is None and _bypass(old, new, done, now, start, guard) is None

    # Ahead of the first round counts as well, even if there is none.
    return _fewest_rounds(_differing(old, new), is_safe) if is_safe((), ()) else None
