"""Point 64: segments."""

import itertools
import unittest

from routeweb.errors import BadNode, BadPath, BadSegments, BadWeights, NotGraph
from routeweb.graphs import Graph, nearest_paths
from routeweb.segments import led, least_segments
from tests.test_graphs import all_paths, graph_without, some_graphs
from tests.values import NO_INTEGERS, NO_OBJECTS, NO_TUPLES, Raises

# A square with equal weights, so that there are two least paths from 0 to 3; then on to 4, and back to 0.
GRAPH = Graph(6, ((0, 1), (0, 2), (1, 3), (2, 3), (3, 4), (4, 0)))
WEIGHTS = (1, 1, 1, 1, 1, 1)


def segments_of(graph):
    return [(word, node) for word in ("to", "over") for node in graph.nodes]


def fewest(graph, weights, path):
    """The least number of segments that lead along a path, by trying all of them."""
    for many in range(len(path)):
        for segments in itertools.product(segments_of(graph), repeat=many):
            try:
                if led(graph, weights, path[0], segments) == path:
                    return many
            except BadSegments:
                pass
    return None


class LedTest(Raises, unittest.TestCase):
    def test_no_segments(self):
        self.assertEqual(led(GRAPH, WEIGHTS, 3, ()), (3,))
        self.assertEqual(led(Graph(1, ()), (), 0, ()), (0,))

    def test_to(self):
        self.assertEqual(led(GRAPH, WEIGHTS, 1, (("to", 4),)), (1, 3, 4))
        self.assertEqual(led(GRAPH, WEIGHTS, 1, (("to", 0),)), (1, 3, 4, 0))
        self.assertEqual(led(GRAPH, WEIGHTS, 0, (("to", 1), ("to", 4))), (0, 1, 3, 4))

    def test_over(self):
        self.assertEqual(led(GRAPH, WEIGHTS, 0, (("over", 2), ("over", 3))), (0, 2, 3))

    def test_over_an_arc_that_is_no_least_path(self):
        graph = Graph(3, ((0, 1), (0, 2), (1, 2)))
        self.assertEqual(led(graph, (1, 5, 1), 0, (("over", 2),)), (0, 2))
        self.assertEqual(led(graph, (1, 5, 1), 0, (("to", 2),)), (0, 1, 2))

    def test_nodes_may_occur_twice(self):
        found = led(GRAPH, WEIGHTS, 0, (("to", 1), ("to", 0), ("over", 2), ("to", 0)))
        self.assertEqual(found, (0, 1, 3, 4, 0, 2, 3, 4, 0))

    def test_to_where_one_is(self):
        # The least path of a node to itself is the node alone.
        self.assertEqual(led(GRAPH, WEIGHTS, 3, (("to", 3), ("to", 3), ("over", 4), ("to", 4))), (3, 4))
        self.assertEqual(led(GRAPH, WEIGHTS, 5, (("to", 5),)), (5,))

    def test_more_segments_than_nodes(self):
        self.assertEqual(len(led(Graph(2, ((0, 1), (1, 0))), (1, 1), 0, (("over", 1), ("to", 0)) * 50)), 101)

    def test_no_tuple(self):
        for value in (*NO_TUPLES, [("to", 1)]):
            self.assert_error(BadSegments, led, GRAPH, WEIGHTS, 0, value, index=None)

    def test_no_segment(self):
        wrong = [(), ("to",), ("to", 1, 1), ["to", 1], "to", ("To", 1), ("", 1), ("by", 1), (1, "to"), (1, 1), None, 1]
        wrong += [("to", 6), ("to", -1), ("over", 6), ("over", -1)]
        wrong += [(("to", 1),), (("to",), 1), (None, 1), (("to", "over"), 1)]
        for value in NO_INTEGERS:
            wrong += [("to", value), ("over", value), (value, 1)]
        wrong += [(value, 1) for value in NO_OBJECTS]
        for item in wrong:
            self.assert_error(BadSegments, led, GRAPH, WEIGHTS, 0, (item,), index=0)
            self.assert_error(BadSegments, led, GRAPH, WEIGHTS, 0, (("to", 1), ("over", 3), item, None), index=2)

    def test_nowhere(self):
        # Two least paths, no path, no arc, an arc the other way, an arc to the node itself.
        for item in (("to", 3), ("to", 4), ("to", 5), ("over", 3), ("over", 4), ("over", 5), ("over", 0)):
            self.assert_error(BadSegments, led, GRAPH, WEIGHTS, 0, (item,), index=0)
            self.assert_error(BadSegments, led, GRAPH, WEIGHTS, 4, (("over", 0), item), index=1)

    def test_first_wrong_item(self):
        self.assert_error(BadSegments, led, GRAPH, WEIGHTS, 0, (("to", 1), ("to", 5), None), index=1)
        self.assert_error(BadSegments, led, GRAPH, WEIGHTS, 0, (("to", 1), None, ("to", 5)), index=1)

    def test_equal_paths_by_weights(self):
        # With another weight there is just one least path to 3.
        self.assertEqual(led(GRAPH, (1, 2, 1, 1, 1, 1), 0, (("to", 3),)), (0, 1, 3))

    def test_by_definition(self):
        for graph, weights in some_graphs(20, 5):
            for node, goal in itertools.product(graph.nodes, repeat=2):
                paths = nearest_paths(graph, weights, node, goal)
                if len(paths) == 1:
                    self.assertEqual(led(graph, weights, node, (("to", goal),)), paths[0])
                else:
                    self.assert_error(BadSegments, led, graph, weights, node, (("to", goal),), index=0)


class LeastSegmentsTest(Raises, unittest.TestCase):
    def assert_least(self, graph, weights, path, many):
        found = least_segments(graph, weights, path)
        self.assertIsInstance(found, tuple)
        self.assertEqual(led(graph, weights, path[0], found), path)
        self.assertEqual(len(found), many)

    def test_least_segments(self):
        self.assert_least(GRAPH, WEIGHTS, (0, 1, 3), 2)
        self.assert_least(GRAPH, WEIGHTS, (0, 1, 3, 4), 2)
        self.assert_least(GRAPH, WEIGHTS, (1, 3, 4, 0, 2), 1)
        self.assert_least(GRAPH, WEIGHTS, (1, 3, 4), 1)
        self.assert_least(GRAPH, WEIGHTS, (0, 1), 1)

    def test_one_node(self):
        for node in GRAPH.nodes:
            self.assertEqual(least_segments(GRAPH, WEIGHTS, (node,)), ())

    def test_arc_that_is_no_least_path(self):
        graph = Graph(4, ((0, 1), (0, 2), (1, 2), (2, 3)))
        self.assert_least(graph, (1, 2, 1, 1), (0, 2), 1)
        self.assertEqual(least_segments(graph, (1, 2, 1, 1), (0, 2)), (("over", 2),))
        self.assert_least(graph, (1, 5, 1, 1), (0, 2, 3), 2)
        self.assert_least(graph, (1, 5, 1, 1), (0, 1, 2, 3), 1)

    def test_greatest_graph(self):
        graph = graph_without(8, ())
        # All arcs are least paths, and no two of them are one.
        self.assert_least(graph, (1,) * 56, tuple(range(8)), 7)
        line = Graph(8, tuple((node, node + 1) for node in range(7)))
        self.assert_least(line, (1,) * 7, tuple(range(8)), 1)

    def test_no_path(self):
        wrong = [(), (6,), (-1,), (0, 3), (1, 0), (0, 0), (0, 1, 3, 4, 0), (3, 4, 0, 1, 3), (0, 1, 5)]
        wrong += [[0, 1], ((0, 1),)]
        for value in NO_INTEGERS:
            wrong += [(value,), (0, value), (value, 3)]
        for value in (*wrong, *NO_TUPLES, *NO_OBJECTS[3:9]):
            if value != (0,):
                self.assert_error(BadPath, least_segments, GRAPH, WEIGHTS, value)

    def test_by_definition(self):
        most = 0
        for graph, weights in some_graphs(25, 4):
            for node, goal in itertools.product(graph.nodes, repeat=2):
                for path in all_paths(graph, node, goal):
                    many = fewest(graph, weights, path)
                    self.assert_least(graph, weights, path, many)
                    most = max(most, many)
        self.assertEqual(most, 3)


class ErrorsTest(Raises, unittest.TestCase):
    def test_no_graph(self):
        for value in NO_OBJECTS:
            self.assert_error(NotGraph, led, value, None, None, None)
            self.assert_error(NotGraph, least_segments, value, None, None)

    def test_no_weights(self):
        for value in (*NO_TUPLES, WEIGHTS[1:], (*WEIGHTS, 1)):
            self.assert_error(BadWeights, led, GRAPH, value, None, None, index=None)
            self.assert_error(BadWeights, least_segments, GRAPH, value, None, index=None)
        for value in (0, 101, *NO_INTEGERS):
            self.assert_error(BadWeights, led, GRAPH, (1, 1, value, 1, value, 1), None, None, index=2)
            self.assert_error(BadWeights, least_segments, GRAPH, (1, 1, value, 1, value, 1), None, index=2)

    def test_no_node(self):
        for value in (6, -1, 10 ** 30, *NO_INTEGERS):
            self.assert_error(BadNode, led, GRAPH, WEIGHTS, value, None)


if __name__ == "__main__":
    unittest.main()
