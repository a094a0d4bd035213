"""Points 55 and 56: paths with two costs."""

import itertools
import random
import unittest

from routeweb.errors import BadCosts, BadNode, BadNumber, NotGraph
from routeweb.fronts import front, front_path, least_within
from routeweb.graphs import Graph
from tests.test_graphs import all_paths, graph_without, some_graphs
from tests.values import NO_INTEGERS, NO_OBJECTS, NO_TUPLES, Raises

# From 0 to 3 by 1, by 2, or at once; node 4 cannot be reached.
GRAPH = Graph(5, ((0, 1), (0, 2), (0, 3), (1, 3), (2, 3), (4, 0)))
COSTS = ((1, 9), (5, 1), (9, 9), (2, 1), (3, 3), (1, 1))


def some_costs(many, size):
    made = random.Random(many)
    for graph, _ in some_graphs(many, size):
        yield graph, tuple((made.randint(1, 9), made.randint(1, 9)) for _ in graph.arcs)


def sums_of(graph, costs, path):
    cost_of = dict(zip(graph.arcs, costs))
    passed = [cost_of[arc] for arc in zip(path, path[1:])]
    return sum(first for first, _ in passed), sum(second for _, second in passed)


def beats(one, other):
    return one != other and one[0] <= other[0] and one[1] <= other[1]


class FrontTest(Raises, unittest.TestCase):
    def test_front(self):
        # By 1 it is (3, 10), by 2 (8, 4), at once (9, 9): this is beaten by (8, 4).
        self.assertEqual(front(GRAPH, COSTS, 0, 3), ((3, 10), (8, 4)))
        self.assertEqual(front(GRAPH, COSTS, 4, 3), ((4, 11), (9, 5)))
        self.assertEqual(front(GRAPH, COSTS, 0, 1), ((1, 9),))

    def test_equal_sums(self):
        # The same first sum, or the same second one: only the lesser one is kept; twice the same pair counts once.
        square = Graph(4, ((0, 1), (0, 2), (1, 3), (2, 3)))
        self.assertEqual(front(square, ((1, 2), (1, 1), (1, 1), (1, 1)), 0, 3), ((2, 2),))
        self.assertEqual(front(square, ((2, 1), (1, 1), (1, 1), (1, 1)), 0, 3), ((2, 2),))
        self.assertEqual(front(square, ((1, 1), (1, 1), (1, 1), (1, 1)), 0, 3), ((2, 2),))
        self.assertEqual(front(square, ((1, 2), (2, 1), (1, 1), (1, 1)), 0, 3), ((2, 3), (3, 2)))

    def test_no_path(self):
        self.assertEqual(front(GRAPH, COSTS, 0, 4), ())
        self.assertEqual(front(GRAPH, COSTS, 3, 0), ())
        self.assertIsNone(front_path(GRAPH, COSTS, 0, 4, (0, 0)))
        self.assertIsNone(least_within(GRAPH, COSTS, 0, 4, 1000))

    def test_equal_nodes(self):
        self.assertEqual(front(GRAPH, COSTS, 3, 3), ((0, 0),))
        self.assertEqual(front_path(GRAPH, COSTS, 3, 3, (0, 0)), (3,))
        self.assertEqual(least_within(GRAPH, COSTS, 3, 3, 0), 0)
        self.assertEqual(front(Graph(1, ()), (), 0, 0), ((0, 0),))

    def test_front_path(self):
        self.assertEqual(front_path(GRAPH, COSTS, 0, 3, (3, 10)), (0, 1, 3))
        self.assertEqual(front_path(GRAPH, COSTS, 0, 3, (8, 4)), (0, 2, 3))
        self.assertEqual(front_path(GRAPH, COSTS, 0, 1, (1, 9)), (0, 1))

    def test_no_pair_of_the_front(self):
        # (9, 9) are the sums of a path, but beaten.
        wrong = [(9, 9), (3, 4), (10, 3), (3,), (3, 10, 0), [3, 10], (), ((3, 10),), "310", 3, (3, 10 ** 30), (-3, 10)]
        for value in (*wrong, *NO_TUPLES, *NO_OBJECTS, GRAPH, COSTS):
            self.assertIsNone(front_path(GRAPH, COSTS, 0, 3, value))
        for value in NO_INTEGERS:
            for pair in ((value, 10), (3, value), (value, value)):
                self.assertIsNone(front_path(GRAPH, COSTS, 0, 3, pair))
                # True and False are no integers.
                self.assertIsNone(front_path(GRAPH, COSTS, 0, 0, pair))
        graph = Graph(2, ((0, 1),))
        self.assertEqual(front_path(graph, ((1, 1),), 0, 1, (1, 1)), (0, 1))
        self.assertIsNone(front_path(graph, ((1, 1),), 0, 1, (True, 1)))
        self.assertIsNone(front_path(graph, ((1, 1),), 0, 1, (1, True)))

    def test_greatest_sums(self):
        line = Graph(8, tuple((node, node + 1) for node in range(7)))
        self.assertEqual(front(line, ((100, 100),) * 7, 0, 7), ((700, 700),))
        self.assertEqual(front_path(line, ((100, 100),) * 7, 0, 7, (700, 700)), tuple(range(8)))
        self.assertEqual(least_within(line, ((100, 100),) * 7, 0, 7, 700), 700)
        self.assertIsNone(least_within(line, ((100, 100),) * 7, 0, 7, 699))

    def test_more_than_500_paths(self):
        graph = graph_without(8, ())
        costs = tuple((1 + 7 * index % 100, 1 + 31 * index % 97) for index in range(56))
        found = front(graph, costs, 0, 7)
        for pair in found:
            self.assertEqual(sums_of(graph, costs, front_path(graph, costs, 0, 7, pair)), pair)
        self.assertEqual(least_within(graph, costs, 0, 7, found[-1][1]), found[-1][0])

    def test_by_definition(self):
        most = 0
        for graph, costs in some_costs(30, 5):
            for node, goal in itertools.product(graph.nodes, repeat=2):
                paths = {path: sums_of(graph, costs, path) for path in all_paths(graph, node, goal)}
                pairs = sorted(set(paths.values()))
                wanted = tuple(pair for pair in pairs if not any(beats(other, pair) for other in pairs))
                self.assertEqual(front(graph, costs, node, goal), wanted)
                most = max(most, len(wanted))
                for pair in pairs:
                    path = front_path(graph, costs, node, goal, pair)
                    self.assertEqual(path is not None, pair in wanted)
                    if path is not None:
                        self.assertEqual(paths[path], pair)
        self.assertGreater(most, 2)


class LeastWithinTest(Raises, unittest.TestCase):
    def test_least_within(self):
        found = {bound: least_within(GRAPH, COSTS, 0, 3, bound) for bound in (0, 3, 4, 9, 10, 11, 1000)}
        self.assertEqual(found, {0: None, 3: None, 4: 8, 9: 8, 10: 3, 11: 3, 1000: 3})

    def test_by_definition(self):
        for graph, costs in some_costs(12, 5):
            for node, goal in itertools.product(graph.nodes, repeat=2):
                pairs = [sums_of(graph, costs, path) for path in all_paths(graph, node, goal)]
                for bound in (0, 1, 3, 5, 8, 12, 1000):
                    wanted = min([first for first, second in pairs if second <= bound], default=None)
                    self.assertEqual(least_within(graph, costs, node, goal, bound), wanted)

    def test_bounds(self):
        for value in (-1, 1001, 10 ** 30, *NO_INTEGERS):
            self.assert_error(BadNumber, least_within, GRAPH, COSTS, 0, 3, value)


class ErrorsTest(Raises, unittest.TestCase):
    def calls(self):
        yield front, ()
        yield front_path, (None,)
        yield least_within, (None,)

    def test_no_graph(self):
        for call, rest in self.calls():
            for value in NO_OBJECTS:
                self.assert_error(NotGraph, call, value, None, None, None, *rest)

    def test_no_costs(self):
        for call, rest in self.calls():
            for value in (*NO_TUPLES, COSTS[1:], (*COSTS, (1, 1)), (None,) * 5, list(COSTS)):
                self.assert_error(BadCosts, call, GRAPH, value, None, None, *rest, index=None)
            wrong = [(), (1,), (1, 1, 1), [1, 1], (0, 1), (1, 0), (101, 1), (1, 101), (-1, 1), "11", 1, None, ((1, 1),)]
            for value in NO_INTEGERS:
                wrong += [(value, 1), (1, value)]
            for item in wrong:
                self.assert_error(BadCosts, call, GRAPH, (item, *COSTS[1:]), None, None, *rest, index=0)
                self.assert_error(BadCosts, call, GRAPH, (*COSTS[:4], item, None), None, None, *rest, index=4)

    def test_least_and_greatest_costs(self):
        self.assertEqual(front(Graph(2, ((0, 1),)), ((100, 1),), 0, 1), ((100, 1),))

    def test_no_nodes(self):
        for call, rest in self.calls():
            for value in (5, -1, 10 ** 30, *NO_INTEGERS):
                self.assert_error(BadNode, call, GRAPH, COSTS, value, 3, *rest)
                self.assert_error(BadNode, call, GRAPH, COSTS, 0, value, *rest)


if __name__ == "__main__":
    unittest.main()
