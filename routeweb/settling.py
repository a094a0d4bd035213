"""States that stay, for nodes that each prefer some paths to others."""


def stable_among(lists, roots):
    """The list of the states in which each node has its best path that the others offer.

    lists has for each node, in the order of a state, its paths, best first; a path ends at one of the roots,
    and is offered if it goes on as a root, or as the path that a node has. The states are ordered, node by
    node, by the places of their paths, None last.
    """
    places = {node: {path: place for place, path in enumerate(lists[node])} for node in lists}
    states = []
    waiting = [{}]
    while waiting:
        fixed = waiting.pop()
        unfixed = [node for node in lists if node not in fixed]
        if unfixed:
            wider = _widened(places, fixed, unfixed[0])
            # What is put last is taken first, so the best path comes last.
            waiting.extend([after for after in wider[::-1] if _may_stay(places, roots, after)])
        else:
            states.append(tuple([fixed[node] for node in lists]))
    return states


def _widened(places, fixed, node):
    """What may be fixed together with each path of a node, in their order, and then with None."""
    wider = [_with_path(places, fixed, path) for path in places[node]]
    return [after for after in wider if after is not None] + [{**fixed, node: None}]


def _with_path(places, fixed, path):
    """What is fixed and, as a node has a path only if the next one has the rest, a path with all its rests.

    None if a rest is no path of its node, or another one is fixed there.
    """
    after = dict(fixed)
    for cut in range(len(path) - 1):
        rest = path[cut:]
        if rest not in places[rest[0]] or after.get(rest[0], rest) != rest:
            return None
        after[rest[0]] = rest
    return after


def _may_stay(places, roots, fixed):
    """Whether no node for which a path or None is fixed is offered a better one by the others."""
    known = [(root,) for root in roots] + [path for path in list(fixed.values()) if path is not None]
    for node in fixed:
        own = places[node]
        place = len(own) if fixed[node] is None else own[fixed[node]]
        longer = [(node, *path) for path in known]
        offered = [own[path] for path in longer if path in own]
        if min(offered, default=place) < place:
            return False
    return True
