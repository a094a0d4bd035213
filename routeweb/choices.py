"""Choices of paths by lists of preference, and whether they settle."""

from routeweb.checks import are_numbers, are_unlike, is_number, is_tuple
from routeweb.errors import BadChoices, BadNode, BadState, HasWheel, NotChoices
from routeweb.networks import check_network, rank_of, routes_of
from routeweb.settling import stable_among

MOST_LISTS = 7
MOST_PATHS = 10


class Choices:
    """For each node from 1 on a tuple of paths to node 0, best first."""

    def __init__(self, lists):
        if not is_tuple(lists, 0, MOST_LISTS):
            raise BadChoices(None, None)
        for node, paths in enumerate(lists, start=1):
            if not is_tuple(paths, 0, MOST_PATHS):
                raise BadChoices(node, None)
            for index, path in enumerate(paths):
                if not is_path(len(lists), node, path) or path in paths[:index]:
                    raise BadChoices(node, index)
        self._lists = lists

    @property
    def lists(self):
        """The tuple of the tuples of paths of the nodes from 1 on."""
        return self._lists

    def __eq__(self, other):
        return isinstance(other, Choices) and self._lists == other._lists


def is_path(many, node, value):
    """Whether a value is a path of a node to node 0, of nodes up to so many."""
    if not are_numbers(value, 0, many) or len(value) < 2:
        return False
    return value[0] == node and value[-1] == 0 and are_unlike(value)


def check_choices(choices):
    """Raise NotChoices for a value that is no choices."""
    if not isinstance(choices, Choices):
        raise NotChoices("no choices")


def _is_listed(choices, node, value):
    """Whether a value is one of the paths of a node."""
    # (True, 0) == (1, 0) in Python, so the nodes are looked at first.
    return are_numbers(value, 0, len(choices.lists)) and value in choices.lists[node - 1]


def check_state(choices, state):
    """Raise BadState for a value that is no state of choices."""
    if not is_tuple(state, len(choices.lists), len(choices.lists)):
        raise BadState(None)
    for index, path in enumerate(state):
        if path is not None and not _is_listed(choices, index + 1, path):
            raise BadState(index)


def taken(choices, node, state):
    """The best path of a node that goes on as node 0, or as the path that a node has in a state; None without any."""
    check_choices(choices)
    if not is_number(node, 1, len(choices.lists)):
        raise BadNode("no node that takes a path")
    check_state(choices, state)
    return taken_in(choices, node, state)


def taken_in(choices, node, state):
    """What a node takes in a state; the arguments are checked already."""
    for path in choices.lists[node - 1]:
        if path[1] == 0 or state[path[1] - 1] == path[1:]:
            return path
    return None


def stable_of(choices):
    """The list of the states in which each node has what it takes, by the places of their paths, None last."""
    check_choices(choices)
    return stable_among({node: paths for node, paths in enumerate(choices.lists, start=1)}, (0,))


def _pairs(choices):
    return [(node, path) for node, paths in enumerate(choices.lists, start=1) for path in paths]


def _disputes(choices, node, path):
    """The list of the (next node, its path, rim) to which a dispute goes on from a node with a path."""
    paths = choices.lists[node - 1]
    found = []
    for better in paths[:paths.index(path) + 1]:
        for cut in range(1, len(better) - 1):
            if better[cut:] in choices.lists[better[cut] - 1]:
                found.append((better[cut], better[cut:], better[:cut + 1]))
    return found


def _numbered(choices):
    """Pairs in an order that is a numbering, as many as can be, and the list of the others.

    From each of the others a dispute goes on to another one of them.
    """
    left = {(node, path): _disputes(choices, node, path) for node, path in _pairs(choices)}
    order = []
    while True:
        ready = [pair for pair in left if not [after for after in left[pair] if after[:2] in left]]
        if not ready:
            return order, list(left)
        order.extend(ready)
        left = {pair: left[pair] for pair in left if pair not in ready}


def wheel(choices):
    """A wheel: triples (node, path, rim) from each of which the dispute goes on to the next one; None without any."""
    check_choices(choices)
    _, left = _numbered(choices)
    if not left:
        return None
    passed = []
    triples = []
    pair = left[0]
    # There are only so many pairs, so the dispute comes back to one that it has passed.
    while pair not in passed:
        passed.append(pair)
        node, path = pair
        after = [found for found in _disputes(choices, node, path) if found[:2] in left]
        triples.append((node, path, after[0][2]))
        pair = after[0][:2]
    return tuple(triples[passed.index(pair):])


def is_wheel(choices, value):
    """Whether a value is a wheel of choices."""
    check_choices(choices)
    if not isinstance(value, tuple) or len(value) == 0 or not all([_is_triple(choices, item) for item in value]):
        return False
    for (node, path, rim), (after, other, _) in zip(value, (*value[1:], value[0])):
        if (after, other, rim) not in _disputes(choices, node, path):
            return False
    return True


def _is_triple(choices, value):
    return is_tuple(value, 3, 3) and _is_pair(choices, value[:2]) and are_numbers(value[2], 0, len(choices.lists))


def _is_pair(choices, value):
    if not is_tuple(value, 2, 2) or not is_number(value[0], 1, len(choices.lists)):
        return False
    return _is_listed(choices, value[0], value[1])


def numbering(choices):
    """A tuple of all pairs (node, path), each behind those to which a dispute goes on from it; None without any."""
    check_choices(choices)
    order, left = _numbered(choices)
    return None if left else tuple(order)


def is_numbering(choices, value):
    """Whether a value is a numbering of choices."""
    check_choices(choices)
    many = len(_pairs(choices))
    if not is_tuple(value, many, many) or not all([_is_pair(choices, item) for item in value]):
        return False
    if not are_unlike(value):
        return False
    for index, (node, path) in enumerate(value):
        if [after for after in _disputes(choices, node, path) if after[:2] not in value[:index]]:
            return False
    return True


def settled(choices):
    """The only stable state of choices without a wheel."""
    if wheel(choices) is not None:
        raise HasWheel("the choices have a wheel")
    return stable_of(choices)[0]


def choices_of(network):
    """The choices of the inner nodes of a network with one terminal: their routes, as choice takes them."""
    check_network(network)
    if len(network.terminals) > 1:
        raise BadChoices(None, None)
    # Too many routes of a later node are told ahead of an earlier node with more than a list may have.
    lists = [routes_of(network, node) for node in network.inner]
    ranked = [tuple(sorted(routes, key=lambda route: rank_of(network, route))) for routes in lists]
    return Choices(tuple(ranked))
