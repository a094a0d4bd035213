"""Runs in which nodes report their distances to node 0, and take none of which a ring could come."""

from routeweb.checks import is_number
from routeweb.errors import BadNumber
from routeweb.graphs import MOST_WEIGHT, check_link, check_node, check_weighted

MOST_NUMBER = 1000


class Reports:
    """A run in which nodes look for paths to node 0: reports are pairs (number, distance)."""

    def __init__(self, graph, weights):
        check_weighted(graph, weights, ())
        self._graph = graph
        # Only of the arcs that are left.
        self._weight_of = dict(zip(graph.arcs, weights))
        self._number = 0
        self._routes = {node: None for node in graph.nodes}
        self._limits = {node: None for node in graph.nodes}
        # For each arc the report, or None, that its tail heard last of its head.
        self._heard = {}

    def renew(self):
        """Raise node 0's number by 1."""
        if self._number == MOST_NUMBER:
            raise BadNumber("the number would be above 1000")
        self._number += 1

    def tell(self, node, neighbor):
        """Let a node hear its neighbor's report of now."""
        check_link(self._graph, self._weight_of, node, neighbor)
        report = self._report(neighbor)
        self._heard[(node, neighbor)] = report
        if report is not None and _is_better(report, self._limits[neighbor]):
            self._limits[neighbor] = report

    def _report(self, node):
        if node == 0:
            return (self._number, 0)
        route = self._routes[node]
        return None if route is None else route[1:]

    def choose(self, node):
        """Let a node take the best of the reports that it heard and may take, or lose its route."""
        check_node(self._graph, node)
        if node != 0:
            self._routes[node] = min(self._offers(node), key=_rank_of, default=None)

    def _offers(self, node):
        """The list of the routes by the reports that a node heard and that are better than its limit."""
        offers = []
        for (hearer, neighbor), report in self._heard.items():
            if hearer == node and report is not None and _is_better(report, self._limits[node]):
                number, distance = report
                offers.append((neighbor, number, distance + self._weight_of[(node, neighbor)]))
        return offers

    def fail(self, node, neighbor):
        """Let an arc be gone for good, with what was heard at it, and the node's route by it."""
        check_link(self._graph, self._weight_of, node, neighbor)
        arc = (node, neighbor)
        del self._weight_of[arc]
        self._heard[arc] = None
        route = self._routes[node]
        if route is not None and route[0] == neighbor:
            self._routes[node] = None

    def weigh(self, node, neighbor, weight):
        """Change the weight of an arc."""
        check_link(self._graph, self._weight_of, node, neighbor)
        if not is_number(weight, 1, MOST_WEIGHT):
            raise BadNumber("no weight")
        self._weight_of[(node, neighbor)] = weight

    def route(self, node):
        """The route (neighbor, number, distance) of a node, None if it has none."""
        check_node(self._graph, node)
        return self._routes[node]

    def limit(self, node):
        """The best report that a node ever told, None if it told none."""
        check_node(self._graph, node)
        return self._limits[node]

    def walk(self, node):
        """The tuple of the nodes from one on by routes, up to one without a route, or that comes again."""
        check_node(self._graph, node)
        passed = [node]
        while passed.count(passed[-1]) == 1 and self._routes[passed[-1]] is not None:
            passed.append(self._routes[passed[-1]][0])
        return tuple(passed)


def _is_better(report, limit):
    """Whether a report is better than a limit; each one is if there is no limit."""
    if limit is None:
        return True
    return report[0] > limit[0] or (report[0] == limit[0] and report[1] < limit[1])


def _rank_of(route):
    """The key by which a node takes routes: the least distance, then the greatest number, then the least neighbor."""
    neighbor, number, distance = route
    return (distance, -number, neighbor)
