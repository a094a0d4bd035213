"""Points 35 to 38: spares, remote spares, and ways without an arc."""

import itertools
import unittest

from routeweb.errors import BadNode, BadWeights, NotGraph
from routeweb.graphs import Graph
from routeweb.spares import by_two, distance_without, is_node_spare, is_spare, remote_spares, spares
from tests.test_graphs import all_paths, some_graphs, sum_of
from tests.values import NO_INTEGERS, NO_OBJECTS, NO_TUPLES, Raises


def both_ways(size, weight_of):
    """The graph and weights of arcs that go back with the same weight."""
    arcs = {arc: weight for pair, weight in weight_of.items() for arc in (pair, pair[::-1])}
    return Graph(size, tuple(arcs)), tuple(arcs[arc] for arc in sorted(arcs))


# A square with a diagonal, and node 4 that cannot be reached.
SQUARE = both_ways(5, {(0, 1): 1, (1, 2): 1, (2, 3): 1, (3, 0): 4, (0, 2): 5})
RING = both_ways(5, {(0, 1): 1, (1, 2): 1, (2, 3): 1, (3, 4): 1, (4, 0): 1})
# No arc goes back.
ONE_WAY = (Graph(5, ((0, 1), (0, 2), (1, 2), (1, 3), (2, 3), (4, 0))), (1, 5, 1, 2, 1, 1))


def least_paths(graph, weights, node, goal):
    paths = all_paths(graph, node, goal)
    least = min([sum_of(graph, weights, path) for path in paths], default=None)
    return [path for path in paths if sum_of(graph, weights, path) == least]


def without(graph, weights, lost):
    left = [(arc, weight) for arc, weight in zip(graph.arcs, weights) if arc not in lost]
    return Graph(len(graph.nodes), tuple(arc for arc, _ in left)), tuple(weight for _, weight in left)


def distance_by_definition(graph, weights, node, goal):
    return min([sum_of(graph, weights, path) for path in all_paths(graph, node, goal)], default=None)


def clear_of_arcs(graph, weights, node, goal, lost):
    paths = least_paths(graph, weights, node, goal)
    return bool(paths) and not any(arc in lost for path in paths for arc in zip(path, path[1:]))


def clear_of_node(graph, weights, node, goal, lost):
    paths = least_paths(graph, weights, node, goal)
    return bool(paths) and not any(lost in path for path in paths)


class SpareTest(Raises, unittest.TestCase):
    def test_is_spare(self):
        self.assertIs(is_spare(*SQUARE, 0, 1, 2), True)
        # The least paths of 3 to 1 are by 2, and those of 1 to 3 as well.
        self.assertIs(is_spare(*SQUARE, 0, 3, 1), True)
        self.assertIs(is_spare(*SQUARE, 1, 2, 0), False)
        # Of the least paths one that passes the node is enough.
        square = both_ways(4, {(0, 1): 1, (1, 2): 1, (2, 3): 1, (3, 0): 1})
        self.assertIs(is_spare(*square, 0, 1, 3), False)
        self.assertIs(is_spare(*square, 0, 1, 2), True)

    def test_goal_is_the_neighbor(self):
        self.assertIs(is_spare(*SQUARE, 0, 1, 1), True)
        self.assertIs(is_spare(*SQUARE, 0, 3, 3), True)

    def test_goal_cannot_be_reached(self):
        self.assertIs(is_spare(*SQUARE, 0, 1, 4), False)
        self.assertIs(is_spare(*ONE_WAY, 0, 1, 4), False)
        self.assertEqual(spares(*SQUARE, 0, 4), ())
        self.assertEqual(spares(*SQUARE, 4, 0), ())

    def test_spares(self):
        # The goal is a spare, too, if the arc to it is no least path.
        self.assertEqual(spares(*SQUARE, 0, 2), (2, 3))
        self.assertEqual(spares(*SQUARE, 0, 1), (2, 3))
        self.assertEqual(spares(*SQUARE, 1, 2), ())
        self.assertEqual(spares(*ONE_WAY, 0, 3), (2,))
        self.assertEqual(spares(*ONE_WAY, 4, 3), ())

    def test_next_hops_are_left_out(self):
        # Each of two next hops is a spare, too.
        self.assertIs(is_spare(*ONE_WAY, 1, 2, 3), True)
        graph, weights = both_ways(4, {(0, 1): 1, (0, 2): 1, (1, 3): 1, (2, 3): 1})
        self.assertIs(is_spare(graph, weights, 0, 1, 3), True)
        self.assertEqual(spares(graph, weights, 0, 3), ())

    def test_node_spare(self):
        self.assertIs(is_node_spare(*RING, 0, 4, 3, 2), False)
        self.assertIs(is_node_spare(*RING, 0, 4, 1, 2), True)
        self.assertIs(is_node_spare(*RING, 0, 4, 1, 3), True)
        self.assertIs(is_node_spare(*SQUARE, 0, 3, 2, 1), False)
        self.assertIs(is_node_spare(*SQUARE, 0, 3, 1, 2), True)
        # The neighbor is the goal.
        self.assertIs(is_node_spare(*SQUARE, 0, 3, 1, 3), True)
        self.assertIs(is_node_spare(*SQUARE, 0, 1, 2, 4), False)

    def test_by_definition(self):
        told = set()
        for graph, weights in some_graphs(25, 5):
            for node, goal in itertools.permutations(graph.nodes, 2):
                least = least_paths(graph, weights, node, goal)
                found = []
                for neighbor in [head for tail, head in graph.arcs if tail == node]:
                    wanted = clear_of_node(graph, weights, neighbor, goal, node)
                    self.assertIs(is_spare(graph, weights, node, neighbor, goal), wanted)
                    if wanted and neighbor not in [path[1] for path in least]:
                        found.append(neighbor)
                    for lost in set(graph.nodes) - {node, neighbor, goal}:
                        is_free = clear_of_node(graph, weights, neighbor, goal, lost)
                        self.assertIs(is_node_spare(graph, weights, node, neighbor, lost, goal), wanted and is_free)
                        told.add((wanted, is_free))
                self.assertEqual(spares(graph, weights, node, goal), tuple(found))
        self.assertEqual(len(told), 4)

    def test_no_graph_or_weights(self):
        for value in NO_OBJECTS:
            self.assert_error(NotGraph, is_spare, value, None, 9, 9, 9)
            self.assert_error(NotGraph, spares, value, None, 9, 9)
            self.assert_error(NotGraph, is_node_spare, value, None, 9, 9, 9, 9)
        graph, weights = SQUARE
        for value in (*NO_TUPLES, weights[1:], (*weights, 1)):
            self.assert_error(BadWeights, is_spare, graph, value, 9, 9, 9, index=None)
            self.assert_error(BadWeights, spares, graph, value, 9, 9, index=None)
            self.assert_error(BadWeights, is_node_spare, graph, value, 9, 9, 9, 9, index=None)
        for value in (0, 101, *NO_INTEGERS):
            wrong = (*weights[:3], value, *weights[4:])
            self.assert_error(BadWeights, is_spare, graph, wrong, 9, 9, 9, index=3)
            self.assert_error(BadWeights, spares, graph, wrong, 9, 9, index=3)
            self.assert_error(BadWeights, is_node_spare, graph, wrong, 9, 9, 9, 9, index=3)

    def test_no_nodes(self):
        for value in (5, -1, 10 ** 30, *NO_INTEGERS):
            self.assert_error(BadNode, is_spare, *SQUARE, value, 1, 2)
            self.assert_error(BadNode, is_spare, *SQUARE, 0, value, 2)
            self.assert_error(BadNode, is_spare, *SQUARE, 0, 1, value)
            self.assert_error(BadNode, spares, *SQUARE, value, 2)
            self.assert_error(BadNode, spares, *SQUARE, 2, value)
            self.assert_error(BadNode, is_node_spare, *SQUARE, value, 1, 2, 3)
            self.assert_error(BadNode, is_node_spare, *SQUARE, 0, value, 2, 3)
            self.assert_error(BadNode, is_node_spare, *SQUARE, 0, 1, value, 3)
            self.assert_error(BadNode, is_node_spare, *SQUARE, 0, 1, 2, value)

    def test_no_ends_of_an_arc(self):
        for node, neighbor in ((0, 0), (1, 3), (0, 4), (4, 0)):
            self.assert_error(BadNode, is_spare, *SQUARE, node, neighbor, 2)
            self.assert_error(BadNode, is_node_spare, *SQUARE, node, neighbor, 2, 3)
        # The arc leads from the node to the neighbor.
        self.assert_error(BadNode, is_spare, *ONE_WAY, 1, 0, 3)
        self.assert_error(BadNode, is_node_spare, *ONE_WAY, 1, 0, 2, 3)

    def test_goal_is_the_node(self):
        self.assert_error(BadNode, is_spare, *SQUARE, 0, 1, 0)
        self.assert_error(BadNode, spares, *SQUARE, 0, 0)
        self.assert_error(BadNode, spares, *SQUARE, 4, 4)
        self.assert_error(BadNode, is_node_spare, *SQUARE, 0, 1, 2, 0)

    def test_lost_node_is_another_one(self):
        for lost in (0, 1, 2):
            self.assert_error(BadNode, is_node_spare, *SQUARE, 0, 1, lost, 2)
        self.assert_error(BadNode, is_node_spare, *SQUARE, 0, 1, 1, 1)


class RemoteSparesTest(Raises, unittest.TestCase):
    def test_few(self):
        # From 0 to 2 without the arc to 1: by 4 and 3.
        self.assertEqual(remote_spares(*RING, 0, 1, 2), (3, 4))
        self.assertEqual(remote_spares(*RING, 0, 1, 1), (3,))
        self.assertEqual(remote_spares(*SQUARE, 0, 1, 2), ())
        self.assertEqual(remote_spares(*SQUARE, 0, 2, 3), (0, 1, 2, 3))

    def test_node_and_goal(self):
        # Node 0 itself has a way that is as good by another arc, but also one by the lost one.
        graph, weights = both_ways(4, {(0, 1): 1, (0, 2): 1, (1, 3): 1, (2, 3): 1})
        self.assertEqual(remote_spares(graph, weights, 0, 1, 3), (2,))
        self.assertEqual(remote_spares(graph, weights, 0, 1, 2), (0, 2))

    def test_arc_of_the_other_direction(self):
        # The way from 1 to 4 passes the arc (1, 0), which is another one than (0, 1).
        graph, weights = both_ways(4, {(0, 1): 1, (0, 2): 5, (1, 2): 5, (0, 3): 1})
        self.assertIn(2, remote_spares(graph, weights, 0, 1, 3))

    def test_goal_cannot_be_reached(self):
        self.assertEqual(remote_spares(*SQUARE, 0, 1, 4), ())
        self.assertEqual(remote_spares(*ONE_WAY, 0, 1, 4), ())

    def test_by_definition(self):
        for graph, weights in some_graphs(25, 5):
            for node, neighbor in graph.arcs:
                for goal in set(graph.nodes) - {node}:
                    found = [place for place in graph.nodes
                             if clear_of_arcs(graph, weights, node, place, [(node, neighbor)])
                             and clear_of_arcs(graph, weights, place, goal, [(node, neighbor)])]
                    self.assertEqual(remote_spares(graph, weights, node, neighbor, goal), tuple(found))

    def test_errors(self):
        for value in NO_OBJECTS:
            self.assert_error(NotGraph, remote_spares, value, None, 9, 9, 9)
        for value in NO_TUPLES:
            self.assert_error(BadWeights, remote_spares, SQUARE[0], value, 9, 9, 9, index=None)
        self.assert_error(BadWeights, remote_spares, SQUARE[0], (*SQUARE[1][:-1], 0), 9, 9, 9, index=9)
        for value in (5, -1, *NO_INTEGERS):
            self.assert_error(BadNode, remote_spares, *SQUARE, value, 1, 2)
            self.assert_error(BadNode, remote_spares, *SQUARE, 0, value, 2)
            self.assert_error(BadNode, remote_spares, *SQUARE, 0, 1, value)
        for node, neighbor in ((0, 0), (1, 3), (4, 0)):
            self.assert_error(BadNode, remote_spares, *SQUARE, node, neighbor, 2)
        self.assert_error(BadNode, remote_spares, *ONE_WAY, 1, 0, 3)
        self.assert_error(BadNode, remote_spares, *SQUARE, 0, 1, 0)


class WithoutTest(Raises, unittest.TestCase):
    def test_distance_without(self):
        self.assertEqual(distance_without(*RING, 0, 1, 0, 1), 4)
        self.assertEqual(distance_without(*RING, 1, 0, 0, 1), 4)
        self.assertEqual(distance_without(*RING, 0, 1, 0, 3), 2)
        self.assertEqual(distance_without(*RING, 0, 1, 1, 0), 4)

    def test_no_such_arc(self):
        self.assertEqual(distance_without(*RING, 0, 2, 0, 1), 1)
        self.assertEqual(distance_without(*SQUARE, 0, 4, 0, 3), 3)
        for one in range(5):
            self.assertEqual(distance_without(*RING, one, one, 0, 2), 2)

    def test_one_direction_alone(self):
        self.assertEqual(distance_without(*ONE_WAY, 0, 1, 0, 3), 6)
        self.assertEqual(distance_without(*ONE_WAY, 1, 0, 0, 3), 6)
        self.assertIsNone(distance_without(*ONE_WAY, 0, 4, 4, 3))

    def test_none(self):
        self.assertIsNone(distance_without(*SQUARE, 0, 1, 0, 4))
        self.assertIsNone(distance_without(*ONE_WAY, 4, 0, 4, 1))

    def test_equal_nodes(self):
        self.assertEqual(distance_without(*SQUARE, 0, 1, 4, 4), 0)
        self.assertEqual(distance_without(*SQUARE, 0, 1, 0, 0), 0)
        self.assertEqual(distance_without(*SQUARE, 0, 0, 0, 0), 0)
        self.assertEqual(distance_without(Graph(1, ()), (), 0, 0, 0, 0), 0)

    def test_by_definition(self):
        for graph, weights in some_graphs(12, 5):
            for one, other, node, goal in itertools.product(graph.nodes, repeat=4):
                left = without(graph, weights, [(one, other), (other, one)])
                wanted = distance_by_definition(*left, node, goal)
                self.assertEqual(distance_without(graph, weights, one, other, node, goal), wanted)

    def test_errors(self):
        for call in (distance_without, by_two):
            for value in NO_OBJECTS:
                self.assert_error(NotGraph, call, value, None, 9, 9, 9, 9)
            for value in (*NO_TUPLES, SQUARE[1][1:]):
                self.assert_error(BadWeights, call, SQUARE[0], value, 9, 9, 9, 9, index=None)
            self.assert_error(BadWeights, call, SQUARE[0], (*SQUARE[1][:-1], True), 9, 9, 9, 9, index=9)
            for value in (5, -1, 10 ** 30, *NO_INTEGERS):
                for at in range(4):
                    nodes = [0, 1, 0, 1]
                    nodes[at] = value
                    self.assert_error(BadNode, call, *SQUARE, *nodes)


class ByTwoTest(Raises, unittest.TestCase):
    def test_arc(self):
        # Without the arc 0 to 1 the way from 0 to 1 is 0, 4, 3 and then 3, 2, 1.
        self.assertEqual(by_two(*RING, 0, 1, 0, 1), (3, 2))
        ring = both_ways(4, {(0, 1): 1, (1, 2): 1, (2, 3): 1, (3, 0): 1})
        self.assertEqual(by_two(*ring, 0, 1, 0, 1), (3, 2))
        self.assertEqual(by_two(*ring, 1, 0, 0, 1), (3, 2))
        self.assertEqual(by_two(*ring, 0, 1, 1, 0), (2, 3))

    def test_least_pair(self):
        self.assertEqual(by_two(*RING, 0, 1, 0, 3), (0, 0))
        self.assertEqual(by_two(*RING, 2, 3, 0, 1), (0, 0))
        self.assertEqual(by_two(*RING, 3, 3, 2, 1), (1, 1))

    def test_equal_nodes(self):
        for one, other in itertools.product(range(5), repeat=2):
            self.assertEqual(by_two(*SQUARE, one, other, 3, 3), (3, 3))

    def test_none(self):
        self.assertIsNone(by_two(*SQUARE, 0, 1, 0, 4))
        self.assertIsNone(by_two(*ONE_WAY, 4, 0, 4, 3))
        # There is a long way from 0 to 1, but the least paths to its nodes, and from them, are by the lost arc.
        graph = Graph(4, ((0, 1), (0, 2), (1, 2), (1, 3), (2, 0), (2, 3), (3, 0), (3, 1)))
        self.assertEqual(distance_without(graph, (1, 50, 1, 1, 1, 50, 1, 50), 0, 1, 0, 1), 150)
        self.assertIsNone(by_two(graph, (1, 50, 1, 1, 1, 50, 1, 50), 0, 1, 0, 1))

    def test_always_one_if_arcs_go_back(self):
        for graph, weights in some_graphs(5, 5):
            there = {arc: weight for arc, weight in zip(graph.arcs, weights) if arc[0] < arc[1]}
            both = both_ways(5, there)
            for one, other, node, goal in itertools.product(graph.nodes, repeat=4):
                is_reached = distance_without(*both, one, other, node, goal) is not None
                self.assertEqual(by_two(*both, one, other, node, goal) is not None, is_reached)

    def test_by_definition(self):
        told = {True: 0, False: 0}
        for graph, weights in some_graphs(16, 4):
            weight_of = dict(zip(graph.arcs, weights))
            for one, other, node, goal in itertools.product(graph.nodes, repeat=4):
                lost = [(one, other), (other, one)]
                wanted = distance_by_definition(*without(graph, weights, lost), node, goal)
                found = []
                for m, n in itertools.product(graph.nodes, repeat=2):
                    if m != n and ((m, n) not in weight_of or (m, n) in lost):
                        continue
                    if not clear_of_arcs(graph, weights, node, m, lost):
                        continue
                    if not clear_of_arcs(graph, weights, n, goal, lost):
                        continue
                    length = distance_by_definition(graph, weights, node, m) + weight_of.get((m, n), 0)
                    if length + distance_by_definition(graph, weights, n, goal) == wanted:
                        found.append((m, n))
                self.assertEqual(by_two(graph, weights, one, other, node, goal), min(found, default=None))
                told[wanted is not None and not found] += 1
        self.assertGreater(min(told.values()), 0, told)


if __name__ == "__main__":
    unittest.main()
