"""Points 57 and 58: runs in which nodes report their distances to node 0."""

import itertools
import random
import unittest

from routeweb.errors import BadNode, BadNumber, BadWeights, NoLink, NotGraph
from routeweb.graphs import Graph
from routeweb.reports import Reports
from tests.test_graphs import some_graphs
from tests.values import NO_INTEGERS, NO_OBJECTS, NO_TUPLES, Raises

# A square 0, 1, 3, 2 whose arcs lead both ways but for (0, 2); the weights of the arcs by their order.
ARCS = ((0, 1), (1, 0), (1, 3), (2, 0), (2, 3), (3, 1), (3, 2))
GRAPH = Graph(4, ARCS)
WEIGHTS = (9, 1, 2, 5, 1, 4, 1)


def told(run, *arcs):
    """Tell at the arcs, one after another, each node choosing at once what it hears of."""
    for node, neighbor in arcs:
        run.tell(node, neighbor)
        run.choose(node)


def picture(run, size):
    """All that a run shows."""
    return [(run.route(node), run.limit(node), run.walk(node)) for node in range(size)]


class ReportsTest(Raises, unittest.TestCase):
    def test_at_first(self):
        run = Reports(GRAPH, WEIGHTS)
        for node in range(4):
            self.assertIsNone(run.route(node))
            self.assertIsNone(run.limit(node))
            self.assertEqual(run.walk(node), (node,))

    def test_one_node(self):
        run = Reports(Graph(1, ()), ())
        self.assertIsNone(run.renew())
        self.assertIsNone(run.choose(0))
        self.assertEqual(picture(run, 1), [(None, None, (0,))])

    def test_report_of_node_0(self):
        run = Reports(GRAPH, WEIGHTS)
        told(run, (1, 0))
        self.assertEqual(run.route(1), (0, 0, 1))
        self.assertEqual(run.limit(0), (0, 0))
        run.renew()
        run.renew()
        # The limit is what it told, not what it would tell now.
        self.assertEqual(run.limit(0), (0, 0))
        told(run, (2, 0))
        self.assertEqual(run.route(2), (0, 2, 5))
        self.assertEqual(run.limit(0), (2, 0))

    def test_reports_of_the_others(self):
        run = Reports(GRAPH, WEIGHTS)
        run.tell(3, 1)
        # No report yet: nothing is told, and no limit comes of it.
        self.assertIsNone(run.limit(1))
        run.choose(3)
        self.assertIsNone(run.route(3))
        told(run, (1, 0))
        self.assertIsNone(run.limit(1))
        told(run, (3, 1))
        self.assertEqual(run.route(3), (1, 0, 5))
        self.assertEqual(run.limit(1), (0, 1))
        told(run, (2, 3))
        self.assertEqual(run.route(2), (3, 0, 6))
        self.assertEqual(run.walk(2), (2, 3, 1, 0))
        self.assertEqual(run.walk(0), (0,))

    def test_limit_is_the_best_that_was_told(self):
        run = Reports(GRAPH, WEIGHTS)
        told(run, (1, 0), (3, 1))
        self.assertEqual(run.limit(1), (0, 1))
        # A worse report of the same number does not change it.
        run.weigh(1, 0, 7)
        run.choose(1)
        self.assertEqual(run.route(1), (0, 0, 7))
        run.tell(3, 1)
        self.assertEqual(run.limit(1), (0, 1))
        # A greater number does, however great the distance is.
        run.renew()
        told(run, (1, 0), (3, 1))
        self.assertEqual((run.route(1), run.limit(1)), ((0, 1, 7), (1, 7)))
        # So does a lesser distance with the same number.
        run.weigh(1, 0, 3)
        told(run, (1, 0), (3, 1))
        self.assertEqual((run.route(1), run.limit(1)), ((0, 1, 3), (1, 3)))
        # A lesser number with a lesser distance does not.
        self.assertEqual(run.limit(0), (1, 0))

    def test_limit_is_of_what_is_told_to_anybody(self):
        run = Reports(Graph(4, ((1, 0), (2, 1), (3, 1))), (4, 1, 1))
        told(run, (1, 0), (2, 1))
        run.weigh(1, 0, 2)
        run.choose(1)
        run.tell(3, 1)
        self.assertEqual(run.limit(1), (0, 2))

    def test_limit_stays_without_a_route(self):
        run = Reports(GRAPH, WEIGHTS)
        told(run, (1, 0), (3, 1))
        run.fail(1, 0)
        run.tell(3, 1)
        self.assertEqual((run.route(1), run.limit(1)), (None, (0, 1)))

    def test_no_graph(self):
        for value in NO_OBJECTS:
            self.assert_error(NotGraph, Reports, value, None)

    def test_no_weights(self):
        for value in (*NO_TUPLES, WEIGHTS[1:], (*WEIGHTS, 1), list(WEIGHTS)):
            self.assert_error(BadWeights, Reports, GRAPH, value, index=None)
        for value in (0, 101, *NO_INTEGERS):
            self.assert_error(BadWeights, Reports, GRAPH, (*WEIGHTS[:3], value, *WEIGHTS[4:6], value), index=3)


class RenewTest(Raises, unittest.TestCase):
    def test_up_to_1000(self):
        run = Reports(GRAPH, WEIGHTS)
        for _ in range(1000):
            self.assertIsNone(run.renew())
        self.assert_error(BadNumber, run.renew)
        told(run, (1, 0))
        self.assertEqual(run.route(1), (0, 1000, 1))
        self.assert_error(BadNumber, run.renew)
        told(run, (1, 0))
        self.assertEqual(run.route(1), (0, 1000, 1))


class TellTest(Raises, unittest.TestCase):
    def test_nothing_is_returned(self):
        self.assertIsNone(Reports(GRAPH, WEIGHTS).tell(1, 0))

    def test_the_report_of_now(self):
        run = Reports(GRAPH, WEIGHTS)
        run.tell(1, 0)
        self.assertIsNone(run.route(1))
        run.renew()
        # What was heard is the report of the time when it was told.
        run.choose(1)
        self.assertEqual(run.route(1), (0, 0, 1))
        run.tell(1, 0)
        self.assertEqual(run.route(1), (0, 0, 1))
        run.choose(1)
        self.assertEqual(run.route(1), (0, 1, 1))

    def test_what_was_heard_at_the_arc_is_replaced(self):
        run = Reports(GRAPH, WEIGHTS)
        told(run, (1, 0), (3, 1))
        run.fail(1, 0)
        # 3 still has what it heard first.
        run.choose(3)
        self.assertEqual(run.route(3), (1, 0, 5))
        told(run, (3, 1))
        self.assertIsNone(run.route(3))

    def test_what_was_heard_at_other_arcs_stays(self):
        run = Reports(GRAPH, WEIGHTS)
        told(run, (1, 0), (2, 0), (3, 1), (3, 2))
        self.assertEqual(run.route(3), (1, 0, 5))
        run.fail(3, 1)
        run.choose(3)
        self.assertEqual(run.route(3), (2, 0, 6))

    def test_one_direction(self):
        run = Reports(Graph(3, ((1, 0), (2, 1))), (1, 1))
        told(run, (1, 0), (2, 1))
        self.assertEqual(run.route(2), (1, 0, 2))
        self.assertEqual((run.limit(2), run.limit(1)), (None, (0, 1)))

    def test_node_0_hears(self):
        run = Reports(GRAPH, WEIGHTS)
        told(run, (1, 0), (0, 1))
        self.assertEqual((run.route(0), run.limit(1)), (None, (0, 1)))


class ChooseTest(Raises, unittest.TestCase):
    def star(self, *weights):
        """Node 1 with arcs to all others, each of which has one to node 0; the weights in ascending order of the arcs.

        The arcs are (1, 0), (1, 2), (1, 3), (1, 4), (2, 0), (3, 0), (4, 0).
        """
        return Reports(Graph(5, ((1, 0), (1, 2), (1, 3), (1, 4), (2, 0), (3, 0), (4, 0))), weights)

    def hear_all(self, run):
        told(run, (2, 0), (3, 0), (4, 0))
        for neighbor in (0, 2, 3, 4):
            run.tell(1, neighbor)

    def test_least_sum(self):
        run = self.star(9, 1, 1, 4, 6, 3, 1)
        self.hear_all(run)
        self.assertIsNone(run.choose(1))
        self.assertEqual(run.route(1), (3, 0, 4))

    def test_least_sum_ahead_of_the_greatest_number(self):
        run = self.star(9, 1, 1, 4, 6, 3, 1)
        self.hear_all(run)
        run.renew()
        told(run, (4, 0))
        run.tell(1, 4)
        run.choose(1)
        self.assertEqual(run.route(1), (3, 0, 4))

    def test_greatest_number_of_equal_sums(self):
        run = self.star(9, 1, 1, 4, 6, 3, 1)
        self.hear_all(run)
        run.weigh(1, 4, 3)
        run.choose(1)
        self.assertEqual(run.route(1), (3, 0, 4))
        run.renew()
        told(run, (4, 0))
        run.tell(1, 4)
        run.choose(1)
        self.assertEqual(run.route(1), (4, 1, 4))

    def test_least_neighbor_of_equal_reports(self):
        run = self.star(9, 2, 2, 2, 2, 2, 2)
        self.hear_all(run)
        run.choose(1)
        self.assertEqual(run.route(1), (2, 0, 4))
        # Equal sums of unlike parts.
        run = self.star(9, 1, 3, 2, 4, 2, 3)
        self.hear_all(run)
        run.choose(1)
        self.assertEqual(run.route(1), (2, 0, 5))

    def test_only_better_than_the_limit(self):
        # 1 tells (0, 5) to 5; then only reports below that count.
        graph = Graph(4, ((1, 0), (1, 2), (2, 0), (3, 1)))
        run = Reports(graph, (5, 1, 5, 1))
        told(run, (1, 0), (3, 1), (2, 0))
        self.assertEqual(run.limit(1), (0, 5))
        run.tell(1, 2)
        run.fail(1, 0)
        # (0, 5) is no better than (0, 5).
        run.choose(1)
        self.assertIsNone(run.route(1))
        run.weigh(2, 0, 4)
        told(run, (2, 0), (1, 2))
        self.assertEqual(run.route(1), (2, 0, 5))
        # The limit is of reports, so that the weight of the arc does not matter.
        run.weigh(1, 2, 100)
        run.choose(1)
        self.assertEqual(run.route(1), (2, 0, 104))

    def test_greater_number_is_better_than_the_limit(self):
        graph = Graph(4, ((1, 0), (1, 2), (2, 0), (3, 1)))
        run = Reports(graph, (1, 1, 50, 1))
        told(run, (1, 0), (3, 1), (2, 0), (1, 2))
        run.fail(1, 0)
        run.choose(1)
        self.assertIsNone(run.route(1))
        run.renew()
        told(run, (2, 0), (1, 2))
        self.assertEqual(run.route(1), (2, 1, 51))

    def test_lesser_number_is_no_better(self):
        graph = Graph(4, ((1, 0), (1, 2), (2, 0), (3, 1)))
        run = Reports(graph, (50, 1, 1, 1))
        told(run, (2, 0))
        run.renew()
        told(run, (1, 0), (3, 1))
        self.assertEqual(run.limit(1), (1, 50))
        told(run, (1, 2))
        # 2 told (0, 1): less far, but of the lesser number.
        self.assertEqual(run.route(1), (0, 1, 50))

    def test_route_is_lost(self):
        run = Reports(GRAPH, WEIGHTS)
        run.choose(1)
        self.assertIsNone(run.route(1))
        told(run, (1, 0), (3, 1))
        # 3 tells nothing better to 1 than what 1 told; with the arc to 0 gone there is nothing left.
        told(run, (1, 3))
        run.fail(1, 0)
        run.choose(1)
        self.assertIsNone(run.route(1))
        self.assertEqual(run.walk(3), (3, 1))

    def test_node_0_does_nothing(self):
        run = Reports(GRAPH, WEIGHTS)
        told(run, (1, 0))
        run.tell(0, 1)
        self.assertIsNone(run.choose(0))
        self.assertEqual(picture(run, 2), [(None, (0, 0), (0,)), ((0, 0, 1), (0, 1), (1, 0))])

    def test_others_stay(self):
        run = Reports(GRAPH, WEIGHTS)
        told(run, (1, 0), (2, 0))
        run.weigh(1, 0, 3)
        run.choose(2)
        self.assertEqual(run.route(1), (0, 0, 1))


class FailTest(Raises, unittest.TestCase):
    def test_arc_is_gone_for_good(self):
        run = Reports(GRAPH, WEIGHTS)
        told(run, (1, 0))
        self.assertIsNone(run.fail(1, 0))
        for call in (run.tell, run.fail):
            self.assert_error(NoLink, call, 1, 0)
        self.assert_error(NoLink, run.weigh, 1, 0, 5)
        run.renew()
        run.choose(1)
        self.assertIsNone(run.route(1))

    def test_arc_back_stays(self):
        run = Reports(GRAPH, WEIGHTS)
        told(run, (1, 0), (3, 1), (1, 3))
        run.fail(1, 3)
        run.tell(3, 1)
        run.choose(3)
        self.assertEqual(run.route(3), (1, 0, 5))

    def test_only_the_route_by_it_is_lost(self):
        run = Reports(GRAPH, WEIGHTS)
        told(run, (1, 0), (2, 0), (3, 1), (3, 2))
        run.fail(3, 2)
        self.assertEqual(run.route(3), (1, 0, 5))
        run.fail(1, 0)
        # Lost at once, without choosing; those by other arcs stay.
        self.assertIsNone(run.route(1))
        self.assertEqual(run.route(3), (1, 0, 5))
        self.assertEqual(run.route(2), (0, 0, 5))
        self.assertEqual(run.walk(3), (3, 1))

    def test_what_was_heard_is_gone(self):
        run = Reports(GRAPH, WEIGHTS)
        run.tell(1, 0)
        run.fail(1, 0)
        run.choose(1)
        self.assertIsNone(run.route(1))

    def test_graph_stays(self):
        run = Reports(GRAPH, WEIGHTS)
        run.fail(1, 0)
        self.assertEqual(GRAPH.arcs, ARCS)
        other = Reports(GRAPH, WEIGHTS)
        told(other, (1, 0))
        self.assertEqual(other.route(1), (0, 0, 1))


class WeighTest(Raises, unittest.TestCase):
    def test_weight_now(self):
        run = Reports(GRAPH, WEIGHTS)
        run.tell(1, 0)
        self.assertIsNone(run.weigh(1, 0, 100))
        run.choose(1)
        self.assertEqual(run.route(1), (0, 0, 100))
        run.weigh(1, 0, 1)
        # A route stays as it was chosen.
        self.assertEqual(run.route(1), (0, 0, 100))
        run.choose(1)
        self.assertEqual(run.route(1), (0, 0, 1))

    def test_one_direction(self):
        run = Reports(GRAPH, WEIGHTS)
        run.weigh(0, 1, 50)
        told(run, (1, 0))
        self.assertEqual(run.route(1), (0, 0, 1))

    def test_no_weight(self):
        run = Reports(GRAPH, WEIGHTS)
        run.tell(1, 0)
        for value in (0, 101, -1, 10 ** 30, *NO_INTEGERS):
            self.assert_error(BadNumber, run.weigh, 1, 0, value)
        run.choose(1)
        self.assertEqual(run.route(1), (0, 0, 1))


class ErrorsTest(Raises, unittest.TestCase):
    def changed(self):
        run = Reports(GRAPH, WEIGHTS)
        told(run, (1, 0), (2, 0), (3, 1), (3, 2), (1, 3))
        run.fail(2, 3)
        run.renew()
        return run

    def test_no_nodes(self):
        run = self.changed()
        before = picture(run, 4)
        for value in (4, -1, 10 ** 30, *NO_INTEGERS):
            for call in (run.choose, run.route, run.limit, run.walk):
                self.assert_error(BadNode, call, value)
            for call in (run.tell, run.fail):
                self.assert_error(BadNode, call, value, None)
                self.assert_error(BadNode, call, value, 0)
                self.assert_error(BadNode, call, 1, value)
            self.assert_error(BadNode, run.weigh, value, None, None)
            self.assert_error(BadNode, run.weigh, 1, value, None)
        self.assertEqual(picture(run, 4), before)

    def test_no_link(self):
        run = self.changed()
        before = picture(run, 4)
        gone = [arc for arc in itertools.product(range(4), repeat=2) if arc not in ARCS] + [(2, 3)]
        for node, neighbor in gone:
            self.assert_error(NoLink, run.tell, node, neighbor)
            self.assert_error(NoLink, run.fail, node, neighbor)
            # Ahead of a weight that is none.
            for weight in (1, 0, None):
                self.assert_error(NoLink, run.weigh, node, neighbor, weight)
        self.assertEqual(picture(run, 4), before)

    def test_nothing_changes(self):
        run, twin = self.changed(), self.changed()
        self.assert_error(NoLink, run.tell, 0, 2)
        self.assert_error(BadNode, run.tell, 4, 0)
        self.assert_error(NoLink, run.tell, 2, 3)
        self.assert_error(NoLink, run.fail, 1, 2)
        self.assert_error(BadNode, run.fail, 1, None)
        self.assert_error(BadNumber, run.weigh, 1, 0, 0)
        self.assert_error(BadNumber, run.weigh, 1, 0, 101)
        self.assert_error(NoLink, run.weigh, 1, 2, 5)
        self.assert_error(BadNode, run.choose, True)
        self.assertEqual(picture(run, 4), picture(twin, 4))
        for one in (run, twin):
            told(one, (1, 0), (3, 1), (3, 2), (2, 0), (1, 3))
        self.assertEqual(picture(run, 4), picture(twin, 4))


class Model:
    """The run as the document tells it, by all that was ever told."""

    def __init__(self, graph, weights):
        self.graph = graph
        self.weights = dict(zip(graph.arcs, weights))
        self.number = 0
        self.routes = {}
        self.heard = {}
        self.ever = {node: [] for node in graph.nodes}

    def report(self, node):
        if node == 0:
            return (self.number, 0)
        return self.routes[node][1:] if node in self.routes else None

    def limit(self, node):
        """The last one of all that it told, from worse to better."""
        ranked = sorted(self.ever[node], key=lambda report: (report[0], -report[1]))
        return ranked[-1] if ranked else None

    def tell(self, node, neighbor):
        self.heard.pop((node, neighbor), None)
        report = self.report(neighbor)
        if report:
            self.heard[node, neighbor] = report
            self.ever[neighbor].append(report)

    def choose(self, node):
        if node == 0:
            return
        self.routes.pop(node, None)
        limit = self.limit(node)
        able = []
        for (hearer, neighbor), (number, distance) in self.heard.items():
            if hearer == node and (not limit or number > limit[0] or number == limit[0] and distance < limit[1]):
                able.append((distance + self.weights[node, neighbor], -number, neighbor))
        if able:
            total, number, neighbor = min(able)
            self.routes[node] = (neighbor, -number, total)

    def fail(self, node, neighbor):
        del self.weights[node, neighbor]
        self.heard.pop((node, neighbor), None)
        if node in self.routes and self.routes[node][0] == neighbor:
            del self.routes[node]


class ModelTest(Raises, unittest.TestCase):
    def step(self, made, run, model, graph):
        kind = made.choice(("tell",) * 8 + ("choose",) * 8 + ("weigh", "renew", "fail"))
        node = made.choice(graph.nodes)
        arc = made.choice(graph.arcs)
        if kind == "renew":
            run.renew()
            model.number += 1
        elif kind == "choose":
            run.choose(node)
            model.choose(node)
        elif arc not in model.weights:
            self.assert_error(NoLink, run.tell, *arc)
        elif kind == "tell":
            run.tell(*arc)
            model.tell(*arc)
        elif kind == "weigh":
            weight = made.randint(1, 4)
            run.weigh(*arc, weight)
            model.weights[arc] = weight
        elif made.random() < 0.3:
            run.fail(*arc)
            model.fail(*arc)

    def test_by_definition(self):
        made = random.Random(58)
        longest = 0
        for graph, weights in some_graphs(40, 5):
            run, model = Reports(graph, weights), Model(graph, weights)
            for _ in range(250 if graph.arcs else 0):
                self.step(made, run, model, graph)
                for node in graph.nodes:
                    self.assertEqual(run.route(node), model.routes.get(node))
                    self.assertEqual(run.limit(node), model.limit(node))
                    walk = run.walk(node)
                    # None ever comes again.
                    self.assertEqual(len(set(walk)), len(walk))
                    self.assertEqual([model.routes[place][0] for place in walk[:-1]], list(walk[1:]))
                    self.assertNotIn(walk[-1], model.routes)
                    longest = max(longest, len(walk))
        self.assertEqual(longest, 5)


if __name__ == "__main__":
    unittest.main()
