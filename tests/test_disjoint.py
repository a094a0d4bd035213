"""Points 68 and 69: paths without a common arc, and the nearest paths."""

import itertools
import random
import unittest

from routeweb.disjoint import disjoint_paths, least_disjoint, nearest_many
from routeweb.errors import BadNode, BadNumber, BadWeights, NotGraph
from routeweb.graphs import Graph
from tests.test_graphs import all_paths, graph_without, some_graphs, sum_of
from tests.values import NO_INTEGERS, NO_OBJECTS, NO_TUPLES, Raises

# Two paths from 0 to 3, by 1 and by 2, and the arc (1, 2) that the shortest one takes; 4 is not reached.
GRAPH = Graph(5, ((0, 1), (0, 2), (1, 2), (1, 3), (2, 3), (4, 0)))
WEIGHTS = (1, 5, 1, 5, 1, 1)


def arcs_of(path):
    return list(zip(path, path[1:]))


def are_disjoint(paths):
    passed = [arc for path in paths for arc in arcs_of(path)]
    return len(set(passed)) == len(passed)


def least_sum(graph, weights, node, goal, many):
    """The least sum of so many paths without a common arc, by trying all; None without any."""
    paths = all_paths(graph, node, goal)
    able = [some for some in itertools.combinations(paths, many) if are_disjoint(some)]
    return min([sum(sum_of(graph, weights, path) for path in some) for some in able], default=None)


def few_paths(many, size, most):
    """Graphs with weights, unlike nodes of them, and not too many paths between these."""
    made = random.Random(many)
    for graph, weights in some_graphs(many, size):
        node, goal = made.sample(graph.nodes, 2)
        if len(all_paths(graph, node, goal)) <= most:
            yield graph, weights, node, goal


class DisjointPathsTest(Raises, unittest.TestCase):
    def assert_disjoint(self, graph, node, goal, many):
        paths, cut = disjoint_paths(graph, node, goal)
        self.assertIsInstance(paths, tuple)
        self.assertIsInstance(cut, tuple)
        self.assertEqual(list(paths), sorted(paths))
        self.assertTrue(set(paths) <= set(all_paths(graph, node, goal)))
        self.assertTrue(are_disjoint(paths))
        self.assertEqual((len(paths), len(cut), len(set(cut))), (many, many, many))
        self.assertTrue(set(cut) <= set(graph.arcs))
        without = Graph(len(graph.nodes), tuple(arc for arc in graph.arcs if arc not in cut))
        self.assertEqual(all_paths(without, node, goal), [])

    def test_disjoint_paths(self):
        self.assert_disjoint(GRAPH, 0, 3, 2)
        self.assertEqual(disjoint_paths(GRAPH, 0, 3)[0], ((0, 1, 3), (0, 2, 3)))
        self.assert_disjoint(GRAPH, 4, 3, 1)
        self.assertEqual(disjoint_paths(GRAPH, 4, 3)[1], ((4, 0),))

    def test_common_nodes(self):
        # All paths pass node 3, and no arc stands in two of them.
        graph = Graph(7, ((0, 1), (0, 2), (1, 3), (2, 3), (3, 4), (3, 5), (4, 6), (5, 6)))
        self.assert_disjoint(graph, 0, 6, 2)

    def test_paths_that_must_be_changed(self):
        # The shortest path takes an arc of each of the two others.
        graph = Graph(8, ((0, 1), (1, 2), (2, 7), (0, 3), (3, 4), (4, 2), (1, 5), (5, 6), (6, 7)))
        self.assert_disjoint(graph, 0, 7, 2)

    def test_no_path(self):
        self.assertEqual(disjoint_paths(GRAPH, 0, 4), ((), ()))
        self.assertEqual(disjoint_paths(GRAPH, 3, 0), ((), ()))
        self.assertEqual(disjoint_paths(Graph(2, ()), 0, 1), ((), ()))

    def test_as_many_as_can_be(self):
        for size in range(2, 9):
            self.assert_disjoint(graph_without(size, ()), size - 1, 0, size - 1)

    def test_arcs_back(self):
        # An arc and the one back are two arcs.
        graph = Graph(4, ((0, 1), (1, 0), (1, 2), (2, 1), (0, 2), (2, 0), (1, 3), (3, 1), (2, 3), (3, 2)))
        self.assert_disjoint(graph, 0, 3, 2)
        self.assert_disjoint(graph, 1, 2, 3)

    def test_by_definition(self):
        counts = []
        for graph, _, node, goal in few_paths(150, 5, 12):
            paths = all_paths(graph, node, goal)
            many = max(
                many for many in range(6) for some in itertools.combinations(paths, many) if are_disjoint(some)
            )
            self.assert_disjoint(graph, node, goal, many)
            counts.append(many)
        self.assertEqual(sorted(set(counts)), [0, 1, 2, 3, 4])
        for graph, _, node, goal in few_paths(40, 8, 10 ** 9):
            self.assert_disjoint(graph, node, goal, len(disjoint_paths(graph, node, goal)[0]))

    def test_no_graph(self):
        for value in NO_OBJECTS:
            self.assert_error(NotGraph, disjoint_paths, value, None, None)

    def test_no_nodes(self):
        for value in (5, -1, 10 ** 30, *NO_INTEGERS):
            self.assert_error(BadNode, disjoint_paths, GRAPH, value, 3)
            self.assert_error(BadNode, disjoint_paths, GRAPH, 0, value)
        for node in GRAPH.nodes:
            self.assert_error(BadNode, disjoint_paths, GRAPH, node, node)


class LeastDisjointTest(Raises, unittest.TestCase):
    def assert_least(self, graph, weights, node, goal, many, wanted):
        total, paths = least_disjoint(graph, weights, node, goal, many)
        self.assertIsInstance(paths, tuple)
        self.assertEqual((total, len(paths)), (wanted, many))
        self.assertEqual(list(paths), sorted(paths))
        self.assertTrue(set(paths) <= set(all_paths(graph, node, goal)))
        self.assertTrue(are_disjoint(paths))
        self.assertEqual(sum(sum_of(graph, weights, path) for path in paths), wanted)

    def test_least_disjoint(self):
        self.assertEqual(least_disjoint(GRAPH, WEIGHTS, 0, 3, 1), (3, ((0, 1, 2, 3),)))
        # The nearest path is none of the two.
        self.assertEqual(least_disjoint(GRAPH, WEIGHTS, 0, 3, 2), (12, ((0, 1, 3), (0, 2, 3))))

    def test_not_the_nearest_two(self):
        # By 1 and by 2 it is 2 and 20; but by 1 and 2 in turn 11 and 3.
        graph = Graph(4, ((0, 1), (0, 2), (1, 2), (1, 3), (2, 3)))
        self.assertEqual(least_disjoint(graph, (1, 9, 1, 10, 1), 0, 3, 2), (21, ((0, 1, 3), (0, 2, 3))))
        self.assertEqual(least_disjoint(graph, (1, 9, 1, 10, 1), 0, 3, 1), (3, ((0, 1, 2, 3),)))

    def test_not_as_many(self):
        self.assertIsNone(least_disjoint(GRAPH, WEIGHTS, 0, 3, 3))
        self.assertIsNone(least_disjoint(GRAPH, WEIGHTS, 0, 3, 5))
        self.assertIsNone(least_disjoint(GRAPH, WEIGHTS, 4, 3, 2))
        self.assertIsNone(least_disjoint(GRAPH, WEIGHTS, 0, 4, 1))

    def test_greatest_graph(self):
        graph = graph_without(8, ())
        # The arc at once, and six paths of two arcs.
        self.assert_least(graph, (1,) * 56, 0, 7, 7, 13)
        self.assertIsNone(least_disjoint(graph, (1,) * 56, 0, 7, 8))

    def test_arc_and_arc_back(self):
        # What was taken along (1, 2) is taken back, though the arc (2, 1) is there as well.
        graph = Graph(4, ((0, 1), (0, 2), (1, 2), (2, 1), (1, 3), (2, 3)))
        self.assert_least(graph, (1, 5, 1, 5, 1, 1), 0, 3, 1, 3)
        self.assert_least(graph, (1, 5, 1, 5, 1, 1), 0, 3, 2, 12)
        self.assert_least(graph, (1, 5, 1, 5, 100, 1), 0, 3, 2, 12)

    def test_by_definition(self):
        found = {1: 0, 2: 0, 3: 0, 4: 0, None: 0}
        for graph, weights, node, goal in few_paths(200, 5, 14):
            for many in range(1, 6):
                wanted = least_sum(graph, weights, node, goal, many)
                if wanted is None:
                    self.assertIsNone(least_disjoint(graph, weights, node, goal, many))
                    found[None] += 1
                else:
                    self.assert_least(graph, weights, node, goal, many, wanted)
                    found[many] += 1
        self.assertGreater(min(found[1], found[2], found[3], found[None]), 10)

    def test_no_number(self):
        for value in (0, 6, -1, 10 ** 30, *NO_INTEGERS):
            self.assert_error(BadNumber, least_disjoint, GRAPH, WEIGHTS, 0, 3, value)

    def test_equal_nodes(self):
        for node in GRAPH.nodes:
            for many in (1, 0, None):
                self.assert_error(BadNode, least_disjoint, GRAPH, WEIGHTS, node, node, many)


class NearestManyTest(Raises, unittest.TestCase):
    def test_nearest_many(self):
        self.assertEqual(nearest_many(GRAPH, WEIGHTS, 0, 3, 1), ((0, 1, 2, 3),))
        # Equal sums ascend.
        self.assertEqual(nearest_many(GRAPH, WEIGHTS, 0, 3, 2), ((0, 1, 2, 3), (0, 1, 3)))
        self.assertEqual(nearest_many(GRAPH, WEIGHTS, 0, 3, 3), ((0, 1, 2, 3), (0, 1, 3), (0, 2, 3)))

    def test_sums_ahead_of_order(self):
        self.assertEqual(nearest_many(GRAPH, (9, 1, 1, 1, 1, 1), 0, 3, 3), ((0, 2, 3), (0, 1, 3), (0, 1, 2, 3)))

    def test_fewer_than_asked_for(self):
        self.assertEqual(len(nearest_many(GRAPH, WEIGHTS, 0, 3, 500)), 3)
        self.assertEqual(nearest_many(GRAPH, WEIGHTS, 0, 4, 500), ())

    def test_equal_nodes(self):
        for node in GRAPH.nodes:
            for many in (1, 2, 500):
                self.assertEqual(nearest_many(GRAPH, WEIGHTS, node, node, many), ((node,),))
        self.assertEqual(nearest_many(Graph(1, ()), (), 0, 0, 1), ((0,),))

    def test_more_than_500_paths(self):
        graph = graph_without(8, ())
        weights = tuple(1 + 37 * index % 100 for index in range(56))
        found = nearest_many(graph, weights, 0, 7, 500)
        ranked = sorted(all_paths(graph, 0, 7), key=lambda path: (sum_of(graph, weights, path), path))
        self.assertEqual(list(found), ranked[:500])
        self.assertEqual(len(ranked), 1957)

    def test_by_definition(self):
        for graph, weights in some_graphs(20, 5):
            for node, goal in itertools.product(graph.nodes, repeat=2):
                ranked = sorted(all_paths(graph, node, goal), key=lambda path: (sum_of(graph, weights, path), path))
                for many in (1, 2, 3, 7, 100):
                    self.assertEqual(nearest_many(graph, weights, node, goal, many), tuple(ranked[:many]))

    def test_no_number(self):
        for value in (0, 501, -1, 10 ** 30, *NO_INTEGERS):
            self.assert_error(BadNumber, nearest_many, GRAPH, WEIGHTS, 0, 3, value)
            self.assert_error(BadNumber, nearest_many, GRAPH, WEIGHTS, 0, 0, value)


class ErrorsTest(Raises, unittest.TestCase):
    def test_no_graph(self):
        for call in (least_disjoint, nearest_many):
            for value in NO_OBJECTS:
                self.assert_error(NotGraph, call, value, None, None, None, None)

    def test_no_weights(self):
        for call in (least_disjoint, nearest_many):
            for value in (*NO_TUPLES, WEIGHTS[1:], (*WEIGHTS, 1), list(WEIGHTS)):
                self.assert_error(BadWeights, call, GRAPH, value, None, None, None, index=None)
            for value in (0, 101, *NO_INTEGERS):
                self.assert_error(BadWeights, call, GRAPH, (*WEIGHTS[:4], value, value), None, None, None, index=4)

    def test_no_nodes(self):
        for call in (least_disjoint, nearest_many):
            for value in (5, -1, 10 ** 30, *NO_INTEGERS):
                self.assert_error(BadNode, call, GRAPH, WEIGHTS, value, 3, None)
                self.assert_error(BadNode, call, GRAPH, WEIGHTS, 0, value, None)


if __name__ == "__main__":
    unittest.main()
