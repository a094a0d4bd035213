"""Networks whose labels are taken from an algebra, their routes, and the states in which they settle."""

from routeweb.algebras import check_algebra, growing_break, isotone_break, strict_break
from routeweb.checks import are_numbers, are_unlike, is_number, is_tuple
from routeweb.errors import BadNetwork, BadNode, BadRoute, BadState, NotNetwork, NotSettled
from routeweb.settling import stable_among
from routeweb.walks import check_few, paths_to

MOST_NODES = 8
MOST_ENDS = 3
MOST_LABELS = 40


class Network:
    """Terminals, the nodes below ends, inner nodes, the others below size, and labels (tail, head, label)."""

    def __init__(self, algebra, ends, size, labels):
        check_algebra(algebra)
        if not is_number(ends, 1, MOST_ENDS) or not is_number(size, ends, MOST_NODES):
            raise BadNetwork(None)
        if not is_tuple(labels, 0, MOST_LABELS):
            raise BadNetwork(None)
        self.algebra = algebra
        self.size = size
        self.terminals = tuple(range(ends))
        self.inner = tuple(range(ends, size))
        self.label_of = {}
        for index, item in enumerate(labels):
            if not _is_label(self, item) or item[:2] in self.label_of:
                raise BadNetwork(index)
            self.label_of[item[:2]] = item[2]
        self._labels = tuple(sorted(labels))

    @property
    def labels(self):
        """The ascending tuple of the labels."""
        return self._labels


def _is_label(network, value):
    if not is_tuple(value, 3, 3) or not is_inner(network, value[0]) or not is_number(value[1], 0, network.size - 1):
        return False
    tail, head, label = value
    if tail == head:
        return False
    table = network.algebra.levels if head in network.terminals else network.algebra.functions
    return is_number(label, 0, len(table) - 1)


def check_network(network):
    """Raise NotNetwork for a value that is no network."""
    if not isinstance(network, Network):
        raise NotNetwork("no network")


def is_inner(network, value):
    """Whether a value is an inner node."""
    return is_number(value, len(network.terminals), network.size - 1)


def check_inner(network, node):
    """Raise BadNode for a value that is no inner node."""
    if not is_inner(network, node):
        raise BadNode("no inner node of the network")


def check_state(network, state):
    """Raise BadState for a value that is no state of a network."""
    if not is_tuple(state, len(network.inner), len(network.inner)):
        raise BadState(None)
    for index, route in enumerate(state):
        if route is not None and (element_of(network, route) is None or route[0] != network.inner[index]):
            raise BadState(index)


def element_of(network, value):
    """The element of a route, None for any value that is no route."""
    if not are_numbers(value, 0, network.size - 1) or len(value) < 2:
        return None
    if not are_unlike(value) or value[-1] not in network.terminals:
        return None
    made = network.label_of.get(value[-2:])
    for at in range(len(value) - 3, -1, -1):
        function = network.label_of.get(value[at:at + 2])
        if made is None or function is None:
            return None
        made = network.algebra.functions[function][made]
    return made


def rank_of(network, route):
    """The key by which choice takes routes: the least level, then the greatest tuple, is the least."""
    level = network.algebra.levels[element_of(network, route)]
    # No route is the beginning of another one, so that turned signs turn the order of the tuples.
    return (level, tuple([-node for node in route]))


def _ways(network, node):
    """The ascending list of the tuples that are routes of a node, if they are not denied."""
    heads = {tail: [] for tail in network.inner}
    for tail, head, _ in network.labels:
        heads[tail].append(head)
    return paths_to(heads, node, network.terminals)


def _undenied(network, ways):
    return [way for way in ways if element_of(network, way) is not None]


def routes_of(network, node):
    """The ascending list of the routes of a node."""
    check_network(network)
    check_inner(network, node)
    ways = _ways(network, node)
    check_few(ways)
    return _undenied(network, ways)


def route_value(network, route):
    """The element of a route."""
    check_network(network)
    made = element_of(network, route)
    if made is None:
        raise BadRoute("no route of the network")
    return made


def best_level(network, node):
    """The least level of the elements of the routes of a node, None without any."""
    routes = routes_of(network, node)
    return min([network.algebra.levels[element_of(network, route)] for route in routes], default=None)


def _offers(network, node, state):
    """The routes of a node that go on as a terminal, or as the route that a node has in a state."""
    ways = [(node, terminal) for terminal in network.terminals]
    ways += [(node, *route) for route in state if route is not None]
    return _undenied(network, ways)


def _first_of(network, routes):
    return min(routes, key=lambda route: rank_of(network, route), default=None)


def chosen(network, node, state):
    """What a node chooses in a state; the arguments are checked already."""
    return _first_of(network, _offers(network, node, state))


def choice(network, node, state):
    """What a node chooses in a state: a route, or None."""
    check_network(network)
    check_inner(network, node)
    check_state(network, state)
    return chosen(network, node, state)


def _second_nodes(state):
    return tuple([-1 if route is None else route[1] for route in state])


def stable_states(network):
    """The list of the states in which each node has what it chooses, by the second nodes of their routes."""
    check_network(network)
    lists = {}
    for node in network.inner:
        routes = _undenied(network, _ways(network, node))
        lists[node] = sorted(routes, key=lambda route: rank_of(network, route))
    return sorted(stable_among(lists, network.terminals), key=_second_nodes)


def rounds(network, state):
    """The list of the states from one on, all nodes choosing at once, up to one that stays or comes again."""
    check_network(network)
    check_state(network, state)
    states = [state]
    while states[-1] not in states[:-1]:
        after = tuple([chosen(network, node, states[-1]) for node in network.inner])
        if after == states[-1]:
            return states
        states.append(after)
    return states


def quarrel(algebra):
    """A network of two nodes that each would rather go by the other one, None for a strict algebra."""
    found = strict_break(algebra)
    if found is None:
        return None
    function, element = found
    return Network(algebra, 1, 3, ((1, 0, element), (2, 0, element), (1, 2, function), (2, 1, function)))


def detour(algebra):
    """A network in which the best route is none of those that settle, None for an isotone algebra."""
    found = isotone_break(algebra)
    if found is None:
        return None
    function, element, other = found
    return Network(algebra, 2, 4, ((2, 1, element), (2, 0, other), (3, 2, function)))


def greedy_state(network):
    """The state in which nodes are settled one by one, the one with the first of all routes first."""
    check_network(network)
    if growing_break(network.algebra) is not None or isotone_break(network.algebra) is not None:
        raise NotSettled("the algebra does not grow or is not isotone")
    settled = {node: None for node in network.inner}
    while True:
        state = tuple([settled[node] for node in network.inner])
        unsettled = [node for node in network.inner if settled[node] is None]
        first = _first_of(network, [route for node in unsettled for route in _offers(network, node, state)])
        if first is None:
            return state
        settled[first[0]] = first
