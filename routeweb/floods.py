"""Floods of statements in which nodes tell each other the arcs of all."""

from routeweb.checks import is_number, is_tuple
from routeweb.errors import BadNode, BadNumber
from routeweb.graphs import MOST_NODES, MOST_WEIGHT, graph_of

MOST_NUMBER = 1000
# The number of a node that stated nothing yet, or of which nothing is known.
FIRST_NUMBER = 0


class Flood:
    """Nodes that each know some statements: a number and arcs of a node, the greater number being the newer one."""

    def __init__(self, size):
        if not is_number(size, 1, MOST_NODES):
            raise BadNode("no size from 1 to 8")
        self._size = size
        # For each node a dict of the statements that it knows by their origin: pairs (number, arcs).
        self._known = {node: {} for node in range(size)}

    def _check_node(self, node):
        if not is_number(node, 0, self._size - 1):
            raise BadNode("no node of the flood")

    def state(self, node, arcs):
        """Let a node state its arcs, a tuple of pairs (head, weight)."""
        self._check_node(node)
        number = _number_of(self._known[node], node) + 1
        if not _are_arcs(self._size, node, arcs) or number > MOST_NUMBER:
            raise BadNumber("no arcs of the node, or a number above 1000")
        self._known[node][node] = (number, arcs)

    def tell(self, node, neighbor):
        """Let a node take all newer statements from another one, or itself; how many there are is returned."""
        self._check_node(node)
        self._check_node(neighbor)
        known = self._known[node]
        newer = {}
        for origin, statement in self._known[neighbor].items():
            if statement[0] > _number_of(known, origin):
                newer[origin] = statement
        known.update(newer)
        return len(newer)

    def records(self, node):
        """The ascending tuple of the triples (origin, number, arcs) that a node knows."""
        self._check_node(node)
        known = self._known[node]
        return tuple([(origin, *known[origin]) for origin in sorted(list(known))])

    def view(self, node):
        """The pair (graph, weights) of the arcs of which a node knows that they lead both ways."""
        weight_of = {(origin, head): weight for origin, _, arcs in self.records(node) for head, weight in arcs}
        both = {(tail, head): weight_of[(tail, head)] for tail, head in weight_of if (head, tail) in weight_of}
        return graph_of(self._size, both)

    def is_known(self):
        """Whether all nodes know the same."""
        return all([known == self._known[0] for known in list(self._known.values())])


def _number_of(known, origin):
    """The number of the statement that is known of an origin."""
    return known[origin][0] if origin in known else FIRST_NUMBER


def _are_arcs(size, node, value):
    if not isinstance(value, tuple) or not all([_is_arc(size, node, item) for item in value]):
        return False
    heads = [head for head, _ in value]
    return heads == sorted(set(heads))


def _is_arc(size, node, value):
    if not is_tuple(value, 2, 2):
        return False
    head, weight = value
    return is_number(head, 0, size - 1) and head != node and is_number(weight, 1, MOST_WEIGHT)
