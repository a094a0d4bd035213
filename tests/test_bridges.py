"""Point 66: bridges."""

import itertools
import random
import unittest

from routeweb.bridges import Bridges, least_tree
from routeweb.errors import BadNode, BadWeights, NoLink, NotGraph
from routeweb.graphs import Graph, distance, next_hops
from tests.test_graphs import some_graphs
from tests.values import NO_INTEGERS, NO_OBJECTS, NO_TUPLES, Raises

# A square 0, 1, 3, 2, each side both ways; 3 hears 4 alone.
ARCS = ((0, 1), (0, 2), (1, 0), (1, 3), (2, 0), (2, 3), (3, 1), (3, 2), (3, 4))
GRAPH = Graph(5, ARCS)
WEIGHTS = (5, 1, 5, 1, 1, 3, 1, 3, 1)


def beliefs(bridges, size):
    return [bridges.belief(bridge) for bridge in range(size)]


class BeliefTest(Raises, unittest.TestCase):
    def test_at_first(self):
        self.assertEqual(beliefs(Bridges(GRAPH, WEIGHTS), 5), [(node, 0, node) for node in range(5)])

    def test_what_a_neighbor_told(self):
        bridges = Bridges(GRAPH, WEIGHTS)
        self.assertIsNone(bridges.tell(3, 1))
        self.assertEqual(bridges.belief(3), (1, 1, 1))
        # The other direction is another arc.
        self.assertEqual(bridges.belief(1), (1, 0, 1))
        bridges.tell(1, 0)
        self.assertEqual(bridges.belief(1), (0, 5, 0))
        # It told what it believed then.
        self.assertEqual(bridges.belief(3), (1, 1, 1))
        bridges.tell(3, 1)
        self.assertEqual(bridges.belief(3), (0, 6, 1))

    def test_least_root_then_cost_then_neighbor(self):
        star = Graph(5, ((2, 0), (2, 1), (3, 1), (4, 1), (4, 2), (4, 3)))
        bridges = Bridges(star, (100, 1, 1, 50, 1, 1))
        bridges.tell(2, 1)
        bridges.tell(2, 0)
        self.assertEqual(bridges.belief(2), (0, 100, 0))
        bridges.tell(3, 1)
        bridges.tell(4, 1)
        self.assertEqual(bridges.belief(4), (1, 50, 1))
        bridges.tell(4, 3)
        self.assertEqual(bridges.belief(4), (1, 2, 3))
        bridges.tell(4, 2)
        self.assertEqual(bridges.belief(4), (0, 101, 2))

    def test_least_neighbor(self):
        graph = Graph(4, ((1, 0), (2, 0), (3, 1), (3, 2)))
        bridges = Bridges(graph, (1, 2, 2, 1))
        for arc in ((2, 0), (1, 0), (3, 2), (3, 1)):
            bridges.tell(*arc)
        self.assertEqual(bridges.belief(3), (0, 3, 1))

    def test_told_last(self):
        # 2 hears of root 0 by 3, then 3 tells itself as the root again to nobody; what counts is the last telling.
        bridges = Bridges(GRAPH, WEIGHTS)
        bridges.tell(1, 3)
        self.assertEqual(bridges.belief(1), (1, 0, 1))
        bridges.tell(3, 2)
        self.assertEqual(bridges.belief(3), (2, 3, 2))
        bridges.tell(2, 0)
        bridges.tell(3, 2)
        self.assertEqual(bridges.belief(3), (0, 4, 2))

    def test_itself_is_better_than_itself_by_others(self):
        bridges = Bridges(Graph(2, ((0, 1), (1, 0))), (1, 1))
        bridges.tell(1, 0)
        bridges.tell(0, 1)
        self.assertEqual(beliefs(bridges, 2), [(0, 0, 0), (0, 1, 0)])

    def test_no_bridge(self):
        bridges = Bridges(GRAPH, WEIGHTS)
        for value in (5, -1, 10 ** 30, *NO_INTEGERS):
            self.assert_error(BadNode, bridges.belief, value)


class TellTest(Raises, unittest.TestCase):
    def test_errors(self):
        bridges = Bridges(GRAPH, WEIGHTS)
        bridges.tell(1, 0)
        before = beliefs(bridges, 5)
        for value in (5, -1, 10 ** 30, *NO_INTEGERS):
            self.assert_error(BadNode, bridges.tell, value, None)
            self.assert_error(BadNode, bridges.tell, value, 0)
            self.assert_error(BadNode, bridges.tell, 3, value)
        for arc in itertools.product(range(5), repeat=2):
            if arc not in ARCS:
                self.assert_error(NoLink, bridges.tell, *arc)
        self.assertEqual(beliefs(bridges, 5), before)


class QuietTest(unittest.TestCase):
    def test_is_quiet(self):
        bridges = Bridges(Graph(2, ((0, 1), (1, 0))), (3, 4))
        # Nothing was told yet: each telling would change that.
        self.assertIs(bridges.is_quiet(), False)
        bridges.tell(1, 0)
        self.assertIs(bridges.is_quiet(), False)
        bridges.tell(0, 1)
        # 1 told (0, 4), which it believes.
        self.assertIs(bridges.is_quiet(), True)

    def test_not_quiet_though_no_belief_would_change(self):
        bridges = Bridges(Graph(2, ((0, 1), (1, 0))), (3, 4))
        bridges.tell(0, 1)
        bridges.tell(1, 0)
        self.assertIs(bridges.is_quiet(), False)
        bridges.tell(0, 1)
        self.assertIs(bridges.is_quiet(), True)

    def test_without_arcs(self):
        self.assertIs(Bridges(Graph(3, ()), ()).is_quiet(), True)

    def test_asking_changes_nothing(self):
        bridges = Bridges(GRAPH, WEIGHTS)
        bridges.is_quiet()
        bridges.tree()
        self.assertEqual(beliefs(bridges, 5), [(node, 0, node) for node in range(5)])

    def test_by_definition(self):
        made = random.Random(66)
        for graph, weights in some_graphs(20, 4):
            bridges, told = Bridges(graph, weights), {}
            for _ in range(40 if graph.arcs else 0):
                would = {(bridge, neighbor): bridges.belief(neighbor)[:2] for bridge, neighbor in graph.arcs}
                self.assertIs(bridges.is_quiet(), told == would)
                arc = made.choice(graph.arcs)
                told[arc] = would[arc]
                bridges.tell(*arc)
                for bridge in graph.nodes:
                    heard = [
                        (told[arc][0], told[arc][1] + weight, arc[1])
                        for arc, weight in zip(graph.arcs, weights) if arc[0] == bridge and arc in told
                    ]
                    self.assertEqual(bridges.belief(bridge), min([(bridge, 0, bridge), *heard]))


class TreeTest(Raises, unittest.TestCase):
    def test_tree(self):
        bridges = Bridges(GRAPH, WEIGHTS)
        self.assertEqual(bridges.tree(), ())
        bridges.tell(3, 1)
        self.assertEqual(bridges.tree(), ((3, 1),))
        bridges.tell(1, 0)
        self.assertEqual(bridges.tree(), ((1, 0), (3, 1)))

    def test_least_tree(self):
        # From 3 it is 4 by 2 and 6 by 1; from 1 it is 5 at once and 5 by 3: the lesser neighbor.
        self.assertEqual(least_tree(GRAPH, WEIGHTS), ((1, 0), (2, 0), (3, 2)))
        self.assertEqual(least_tree(Graph(1, ()), ()), ())

    def test_not_connected(self):
        # 1 and 3, 2 and 4 alone; 0 has no arcs.
        graph = Graph(6, ((1, 3), (3, 1), (2, 4), (4, 2), (5, 4)))
        self.assertEqual(least_tree(graph, (1,) * 5), ((3, 1), (4, 2), (5, 4)))
        self.assertEqual(least_tree(Graph(4, ()), ()), ())

    def test_arcs_that_lead_one_way(self):
        # 0 cannot be heard by 1: an arc leads from 0 to 1 alone.
        self.assertEqual(least_tree(Graph(3, ((0, 1), (2, 1))), (1, 1)), ((2, 1),))

    def test_any_order_comes_to_the_least_tree(self):
        made = random.Random(1)
        several = 0
        for graph, weights in some_graphs(60, 5):
            bridges = Bridges(graph, weights)
            while not bridges.is_quiet():
                bridges.tell(*made.choice(graph.arcs))
            wanted = []
            for node in graph.nodes:
                root = min(goal for goal in graph.nodes if distance(graph, weights, node, goal) is not None)
                if root != node:
                    wanted.append((node, next_hops(graph, weights, node, root)[0]))
                    several += len(next_hops(graph, weights, node, root)) > 1
            self.assertEqual(bridges.tree(), tuple(wanted))
            self.assertEqual(least_tree(graph, weights), tuple(wanted))
        self.assertGreater(several, 3)


class ErrorsTest(Raises, unittest.TestCase):
    def test_no_graph(self):
        for call in (Bridges, least_tree):
            for value in NO_OBJECTS:
                self.assert_error(NotGraph, call, value, None)

    def test_no_weights(self):
        for call in (Bridges, least_tree):
            for value in (*NO_TUPLES, WEIGHTS[1:], (*WEIGHTS, 1), list(WEIGHTS)):
                self.assert_error(BadWeights, call, GRAPH, value, index=None)
            for value in (0, 101, *NO_INTEGERS):
                self.assert_error(BadWeights, call, GRAPH, (*WEIGHTS[:7], value, value), index=7)


if __name__ == "__main__":
    unittest.main()
