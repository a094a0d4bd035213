"""Points 1 to 4: graphs, paths, distances and next hops."""

import itertools
import random
import unittest

from routeweb.errors import BadGraph, BadNode, BadWeights, NotGraph, TooMany
from routeweb.graphs import Graph, distance, nearest_paths, next_hops, simple_paths
from tests.values import NO_INTEGERS, NO_OBJECTS, NO_TUPLES, Raises

# The graph of eight nodes with all arcs but these has just 500 paths from 0 to 7; the first one adds one.
LACKING = ((0, 7), (0, 4), (0, 6), (1, 7), (2, 6), (3, 5), (3, 7), (4, 1), (5, 1), (6, 3))


def graph_without(size, lacking):
    return Graph(size, tuple(arc for arc in itertools.permutations(range(size), 2) if arc not in lacking))


def all_paths(graph, node, goal):
    """The paths by trying all tuples of unlike nodes."""
    arcs = set(graph.arcs)
    others = [place for place in graph.nodes if place not in (node, goal)]
    found = [(node,)] if node == goal else []
    for many in range(len(others) + 1 if node != goal else 0):
        for inner in itertools.permutations(others, many):
            path = (node, *inner, goal)
            if all(arc in arcs for arc in zip(path, path[1:])):
                found.append(path)
    return sorted(found)


def sum_of(graph, weights, path):
    weight_of = dict(zip(graph.arcs, weights))
    return sum(weight_of[arc] for arc in zip(path, path[1:]))


def some_graphs(many, size):
    made = random.Random(many)
    for _ in range(many):
        arcs = [arc for arc in itertools.permutations(range(size), 2) if made.random() < 0.5]
        made.shuffle(arcs)
        yield Graph(size, tuple(arcs)), tuple(made.choice((1, 2, 3, 100)) for _ in arcs)


class GraphTest(Raises, unittest.TestCase):
    def test_arcs_in_any_order(self):
        graph = Graph(4, ((2, 3), (1, 3), (0, 2), (3, 0), (0, 1)))
        self.assertEqual(graph.nodes, (0, 1, 2, 3))
        self.assertEqual(graph.arcs, ((0, 1), (0, 2), (1, 3), (2, 3), (3, 0)))

    def test_both_directions(self):
        self.assertEqual(Graph(2, ((1, 0), (0, 1))).arcs, ((0, 1), (1, 0)))

    def test_least_and_greatest_size(self):
        self.assertEqual((Graph(1, ()).nodes, Graph(1, ()).arcs), ((0,), ()))
        self.assertEqual(Graph(8, ((7, 0),)).nodes, (0, 1, 2, 3, 4, 5, 6, 7))
        self.assertEqual(len(graph_without(8, ()).arcs), 56)

    def test_equal(self):
        graph = Graph(3, ((0, 1), (1, 2)))
        self.assertTrue(graph == Graph(3, ((1, 2), (0, 1))))
        self.assertFalse(graph != Graph(3, ((1, 2), (0, 1))))
        self.assertFalse(graph == Graph(4, ((0, 1), (1, 2))))
        self.assertFalse(graph == Graph(3, ((0, 1),)))
        self.assertFalse(Graph(3, ()) == Graph(2, ()))
        for other in NO_OBJECTS:
            self.assertFalse(graph == other)
            self.assertTrue(graph != other)

    def test_wrong_size(self):
        for size in (0, 9, -1, 10 ** 30, *NO_INTEGERS):
            self.assert_error(BadGraph, Graph, size, (), index=None)
            self.assert_error(BadGraph, Graph, size, ((0, 0),), index=None)

    def test_wrong_tuple(self):
        for arcs in NO_TUPLES:
            self.assert_error(BadGraph, Graph, 3, arcs, index=None)

    def test_most_arcs(self):
        arcs = tuple(itertools.permutations(range(8), 2))
        self.assert_error(BadGraph, Graph, 8, (*arcs, *arcs[:8]), index=56)
        self.assert_error(BadGraph, Graph, 8, (*arcs, *arcs[:9]), index=None)

    def test_wrong_item(self):
        wrong = [(0,), (0, 1, 2), (0, 0), (0, 3), (3, 0), (-1, 0), (0, -1), (), [0, 1], "01", {0: 1}]
        wrong += [(0, value) for value in NO_INTEGERS] + [(value, 2) for value in NO_INTEGERS]
        for item in wrong + [None, 0, True, Graph(2, ((0, 1),))]:
            self.assert_error(BadGraph, Graph, 3, (item,), index=0)
            self.assert_error(BadGraph, Graph, 3, ((0, 1), (1, 2), item, (0, 0)), index=2)

    def test_repeated_item(self):
        self.assert_error(BadGraph, Graph, 3, ((0, 1), (1, 2), (1, 0), (1, 2), (0, 3)), index=3)

    def test_first_wrong_item(self):
        self.assert_error(BadGraph, Graph, 3, ((0, 1), (0, 1), (0, 3)), index=1)
        self.assert_error(BadGraph, Graph, 3, ((0, 3), (0, 1), (0, 1)), index=0)


class SimplePathsTest(Raises, unittest.TestCase):
    def test_ascending(self):
        graph = Graph(4, ((0, 3), (0, 2), (2, 3), (0, 1), (1, 2), (2, 1), (1, 3), (3, 0)))
        paths = [(0, 1, 2, 3), (0, 1, 3), (0, 2, 1, 3), (0, 2, 3), (0, 3)]
        self.assertEqual(simple_paths(graph, 0, 3), paths)

    def test_node_is_goal(self):
        self.assertEqual(simple_paths(graph_without(4, ()), 2, 2), [(2,)])
        self.assertEqual(simple_paths(Graph(1, ()), 0, 0), [(0,)])

    def test_no_path(self):
        self.assertEqual(simple_paths(Graph(3, ((1, 0), (1, 2), (2, 1))), 0, 2), [])

    def test_by_trying_all(self):
        for graph, _ in some_graphs(40, 5):
            for node, goal in itertools.product(graph.nodes, repeat=2):
                self.assertEqual(simple_paths(graph, node, goal), all_paths(graph, node, goal))

    def test_just_500_paths(self):
        graph = graph_without(8, LACKING)
        self.assertEqual(len(simple_paths(graph, 0, 7)), 500)
        self.assertEqual(simple_paths(graph, 0, 7), all_paths(graph, 0, 7))

    def test_more_than_500_paths(self):
        self.assert_error(TooMany, simple_paths, graph_without(8, LACKING[1:]), 0, 7, most=500)
        self.assert_error(TooMany, simple_paths, graph_without(8, ()), 7, 0, most=500)
        self.assertEqual(len(simple_paths(graph_without(7, ()), 0, 6)), 326)

    def test_errors_in_order(self):
        for value in NO_OBJECTS:
            self.assert_error(NotGraph, simple_paths, value, 9, 9)
        for value in (3, -1, *NO_INTEGERS):
            self.assert_error(BadNode, simple_paths, Graph(3, ((0, 1),)), value, 0)
            self.assert_error(BadNode, simple_paths, Graph(3, ((0, 1),)), 0, value)
        self.assert_error(BadNode, simple_paths, graph_without(8, ()), 0, 8)

    def test_new_list(self):
        graph = graph_without(3, ())
        simple_paths(graph, 0, 2).clear()
        self.assertEqual(simple_paths(graph, 0, 2), [(0, 1, 2), (0, 2)])


class WeightsTest(Raises, unittest.TestCase):
    CALLS = (distance, nearest_paths, next_hops)
    GRAPH = Graph(4, ((2, 3), (0, 1), (1, 3), (0, 2)))

    def answers(self, graph, weights, node, goal):
        return [call(graph, weights, node, goal) for call in self.CALLS]

    def test_example(self):
        graph = Graph(4, ((0, 1), (1, 3), (0, 2), (2, 3)))
        self.assertEqual(distance(graph, (1, 2, 2, 1), 0, 3), 3)
        self.assertEqual(nearest_paths(graph, (1, 2, 2, 1), 0, 3), [(0, 1, 3), (0, 2, 3)])
        self.assertEqual(next_hops(graph, (1, 1, 2, 1), 0, 3), (2,))

    def test_one_least_path(self):
        self.assertEqual(self.answers(self.GRAPH, (1, 1, 2, 1), 0, 3), [2, [(0, 2, 3)], (2,)])
        self.assertEqual(self.answers(self.GRAPH, (1, 2, 1, 1), 0, 3), [2, [(0, 1, 3)], (1,)])

    def test_several_least_paths(self):
        two = [(0, 1, 3), (0, 2, 3)]
        self.assertEqual(self.answers(self.GRAPH, (1, 2, 2, 1), 0, 3), [3, two, (1, 2)])
        self.assertEqual(self.answers(self.GRAPH, (100, 100, 100, 100), 0, 3), [200, two, (1, 2)])

    def test_least_is_not_shortest(self):
        graph = Graph(4, ((0, 3), (0, 1), (1, 2), (2, 3)))
        self.assertEqual(self.answers(graph, (1, 4, 1, 1), 0, 3), [3, [(0, 1, 2, 3)], (1,)])
        self.assertEqual(self.answers(graph, (1, 3, 1, 1), 0, 3), [3, [(0, 1, 2, 3), (0, 3)], (1, 3)])

    def test_no_path(self):
        self.assertEqual(self.answers(self.GRAPH, (1, 1, 1, 1), 3, 0), [None, [], ()])
        self.assertEqual(self.answers(Graph(2, ()), (), 0, 1), [None, [], ()])

    def test_node_is_goal(self):
        graph = Graph(2, ((0, 1), (1, 0)))
        self.assertEqual(self.answers(graph, (1, 1), 1, 1), [0, [(1,)], ()])

    def test_by_trying_all(self):
        for graph, weights in some_graphs(40, 5):
            for node, goal in itertools.product(graph.nodes, repeat=2):
                paths = all_paths(graph, node, goal)
                least = min([sum_of(graph, weights, path) for path in paths], default=None)
                nearest = [path for path in paths if sum_of(graph, weights, path) == least]
                hops = tuple(sorted({path[1] for path in nearest if len(path) > 1}))
                self.assertEqual(self.answers(graph, weights, node, goal), [least, nearest, hops])

    def test_more_than_500_paths(self):
        graph = graph_without(8, ())
        self.assertEqual(self.answers(graph, (5,) * 56, 0, 7), [5, [(0, 7)], (7,)])

    def test_as_many_least_paths_as_can_be(self):
        # A path with a sum that is least may pass any of the nodes in between, always upwards: eight
        # nodes have no more least paths than these 64.
        graph = graph_without(8, ())
        weights = tuple(head - tail if head > tail else 100 for tail, head in graph.arcs)
        paths = nearest_paths(graph, weights, 0, 7)
        self.assertEqual(len(paths), 64)
        self.assertEqual(paths, [path for path in all_paths(graph, 0, 7) if path == tuple(sorted(path))])
        self.assertEqual(distance(graph, weights, 0, 7), 7)
        self.assertEqual(next_hops(graph, weights, 0, 7), (1, 2, 3, 4, 5, 6, 7))

    def test_wrong_weights(self):
        for call in self.CALLS:
            for weights in (*NO_TUPLES, (), (1, 1, 1), (1, 1, 1, 1, 1)):
                self.assert_error(BadWeights, call, self.GRAPH, weights, 9, 9, index=None)
            for weight in (0, 101, -1, 10 ** 30, *NO_INTEGERS):
                self.assert_error(BadWeights, call, self.GRAPH, (1, 100, weight, 0), 9, 9, index=2)
            self.assert_error(BadWeights, call, self.GRAPH, (0, 100, 1, 0), 0, 3, index=0)

    def test_errors_in_order(self):
        for call in self.CALLS:
            for value in NO_OBJECTS:
                self.assert_error(NotGraph, call, value, None, 9, 9)
            for value in (4, -1, *NO_INTEGERS):
                self.assert_error(BadNode, call, self.GRAPH, (1, 1, 1, 1), value, 0)
                self.assert_error(BadNode, call, self.GRAPH, (1, 1, 1, 1), 0, value)

    def test_new_list(self):
        nearest_paths(self.GRAPH, (1, 1, 1, 1), 0, 3).clear()
        self.assertEqual(len(nearest_paths(self.GRAPH, (1, 1, 1, 1), 0, 3)), 2)


if __name__ == "__main__":
    unittest.main()
