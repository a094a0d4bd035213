"""Point 65: traffic that is parted among next hops."""

import fractions
import itertools
import random
import unittest

from routeweb.errors import BadDemands, BadNode, BadWeights, NotGraph
from routeweb.graphs import Graph, distance, next_hops
from routeweb.shares import loads, shares, shares_at
from tests.test_graphs import graph_without, some_graphs
from tests.values import NO_INTEGERS, NO_OBJECTS, NO_TUPLES, Raises

# From 0 to 4 by 1, 2 or 3, all equally long; 3 goes to 4 at once or by 5. Node 6 is not reached, but reaches 0.
GRAPH = Graph(7, ((0, 1), (0, 2), (0, 3), (1, 4), (2, 4), (3, 4), (3, 5), (5, 4), (6, 0)))
WEIGHTS = (1, 1, 1, 2, 2, 2, 1, 1, 7)


def parted(graph, weights, node, goal):
    """The traffic on each arc, by following each way of it."""
    on = {}
    waiting = [(node, fractions.Fraction(1))]
    while waiting:
        place, amount = waiting.pop()
        heads = next_hops(graph, weights, place, goal)
        for head in heads:
            on[place, head] = on.get((place, head), 0) + amount / len(heads)
            waiting.append((head, amount / len(heads)))
    return on


def ascending(on):
    return tuple((arc, (on[arc].numerator, on[arc].denominator)) for arc in sorted(on))


class SharesTest(Raises, unittest.TestCase):
    def test_shares(self):
        self.assertEqual(shares(GRAPH, WEIGHTS, 0, 4), (
            ((0, 1), (1, 3)), ((0, 2), (1, 3)), ((0, 3), (1, 3)),
            ((1, 4), (1, 3)), ((2, 4), (1, 3)), ((3, 4), (1, 6)), ((3, 5), (1, 6)), ((5, 4), (1, 6)),
        ))
        self.assertEqual(shares(GRAPH, WEIGHTS, 6, 1), (((0, 1), (1, 1)), ((6, 0), (1, 1))))

    def test_parts_that_meet_again(self):
        # The halves meet at 3, so that the arc behind it has all of it again, and 1 / 2 is 2 / 4 in lowest terms.
        graph = Graph(6, ((0, 1), (0, 2), (1, 3), (2, 3), (3, 4), (3, 5), (4, 5)))
        self.assertEqual(shares(graph, (1, 1, 1, 1, 1, 2, 1), 0, 5), (
            ((0, 1), (1, 2)), ((0, 2), (1, 2)), ((1, 3), (1, 2)), ((2, 3), (1, 2)),
            ((3, 4), (1, 2)), ((3, 5), (1, 2)), ((4, 5), (1, 2)),
        ))
        # A third and two thirds of a half.
        wide = Graph(7, ((0, 1), (0, 2), (1, 3), (1, 4), (1, 5), (2, 5), (3, 6), (4, 6), (5, 6)))
        found = dict(shares(wide, (1,) * 9, 0, 6))
        self.assertEqual((found[1, 3], found[2, 5], found[5, 6]), ((1, 6), (1, 2), (2, 3)))

    def test_evenly_among_next_hops_not_paths(self):
        # Two of the three least paths go by 3, but a half of the traffic.
        graph = Graph(5, ((0, 1), (0, 2), (1, 4), (2, 3), (2, 4), (3, 4)))
        found = dict(shares(graph, (1, 1, 2, 1, 2, 1), 0, 4))
        self.assertEqual((found[0, 1], found[0, 2], found[2, 3]), ((1, 2), (1, 2), (1, 4)))

    def test_without_a_path_and_of_a_node_itself(self):
        self.assertEqual(shares(GRAPH, WEIGHTS, 0, 6), ())
        self.assertEqual(shares(GRAPH, WEIGHTS, 4, 0), ())
        for node in GRAPH.nodes:
            self.assertEqual(shares(GRAPH, WEIGHTS, node, node), ())

    def test_by_definition(self):
        greatest = 0
        # Equal weights make many next hops.
        even = [(graph, (1,) * len(graph.arcs)) for graph, _ in some_graphs(30, 7)]
        for graph, weights in [*some_graphs(30, 6), *even]:
            for node, goal in itertools.product(graph.nodes, repeat=2):
                wanted = ascending(parted(graph, weights, node, goal))
                self.assertEqual(shares(graph, weights, node, goal), wanted)
                greatest = max([greatest, *[ratio[1] for _, ratio in wanted]])
        self.assertGreater(greatest, 4)


class SharesAtTest(Raises, unittest.TestCase):
    def test_shares_at(self):
        found = [shares_at(GRAPH, WEIGHTS, 0, 4, place) for place in GRAPH.nodes]
        self.assertEqual(found, [(1, 1), (1, 3), (1, 3), (1, 3), (1, 1), (1, 6), (0, 1)])

    def test_node_that_reaches_the_goal_but_is_not_passed(self):
        self.assertEqual(shares_at(GRAPH, WEIGHTS, 0, 4, 6), (0, 1))
        self.assertEqual(shares_at(GRAPH, WEIGHTS, 1, 4, 3), (0, 1))
        self.assertEqual(shares_at(GRAPH, WEIGHTS, 0, 1, 4), (0, 1))

    def test_of_a_node_itself(self):
        for node, place in itertools.product(GRAPH.nodes, repeat=2):
            self.assertEqual(shares_at(GRAPH, WEIGHTS, node, node, place), (1, 1) if node == place else (0, 1))

    def test_without_a_path(self):
        for place in GRAPH.nodes:
            self.assertEqual(shares_at(GRAPH, WEIGHTS, 0, 6, place), (0, 1))
            self.assertEqual(shares_at(GRAPH, WEIGHTS, 4, 0, place), (0, 1))

    def test_by_definition(self):
        for graph, weights in some_graphs(30, 5):
            for node, goal, place in itertools.product(graph.nodes, repeat=3):
                on = parted(graph, weights, node, goal)
                wanted = fractions.Fraction(sum(on[arc] for arc in on if arc[1] == place))
                if place == node and distance(graph, weights, node, goal) is not None:
                    wanted = fractions.Fraction(1)
                self.assertEqual(
                    shares_at(graph, weights, node, goal, place), (wanted.numerator, wanted.denominator),
                )

    def test_no_place(self):
        for value in (7, -1, 10 ** 30, *NO_INTEGERS):
            self.assert_error(BadNode, shares_at, GRAPH, WEIGHTS, 0, 4, value)
            # Also without a path.
            self.assert_error(BadNode, shares_at, GRAPH, WEIGHTS, 0, 6, value)


class LoadsTest(Raises, unittest.TestCase):
    def test_one_demand(self):
        self.assertEqual(loads(GRAPH, WEIGHTS, ((0, 4, 1),)), shares(GRAPH, WEIGHTS, 0, 4))
        half = (50, 1)
        self.assertEqual(loads(GRAPH, WEIGHTS, ((3, 4, 100),)), (((3, 4), half), ((3, 5), half), ((5, 4), half)))

    def test_sums(self):
        found = loads(GRAPH, WEIGHTS, ((0, 4, 2), (3, 4, 3), (6, 1, 5), (0, 4, 2)))
        self.assertEqual(found, (
            ((0, 1), (19, 3)), ((0, 2), (4, 3)), ((0, 3), (4, 3)),
            ((1, 4), (4, 3)), ((2, 4), (4, 3)), ((3, 4), (13, 6)), ((3, 5), (13, 6)), ((5, 4), (13, 6)),
            ((6, 0), (5, 1)),
        ))

    def test_lowest_terms(self):
        self.assertEqual(dict(loads(GRAPH, WEIGHTS, ((0, 4, 3), (0, 4, 3))))[0, 1], (2, 1))
        self.assertEqual(dict(loads(GRAPH, WEIGHTS, ((0, 4, 1),) * 2))[3, 5], (1, 3))

    def test_no_demands(self):
        self.assertEqual(loads(GRAPH, WEIGHTS, ()), ())

    def test_without_a_path(self):
        self.assertIsNone(loads(GRAPH, WEIGHTS, ((0, 6, 1),)))
        self.assertIsNone(loads(GRAPH, WEIGHTS, ((0, 4, 1), (4, 0, 1), (0, 1, 1))))

    def test_most_demands(self):
        graph = graph_without(8, ())
        demands = tuple((index % 8, (index + 3) % 8, 100) for index in range(12))
        found = loads(graph, (1,) * 56, demands)
        self.assertEqual(sum(ratio[0] for _, ratio in found), 1200)

    def test_by_definition(self):
        made = random.Random(65)
        without = 0
        for graph, weights in some_graphs(150, 5):
            demands = tuple((*made.sample(graph.nodes, 2), made.randint(1, 100)) for _ in range(made.randint(0, 6)))
            total = {}
            for node, goal, amount in demands:
                for arc, part in parted(graph, weights, node, goal).items():
                    total[arc] = total.get(arc, 0) + part * amount
            wanted = ascending(total)
            if any(distance(graph, weights, node, goal) is None for node, goal, _ in demands):
                wanted = None
                without += 1
            self.assertEqual(loads(graph, weights, demands), wanted)
        self.assertTrue(20 < without < 130)

    def test_no_tuple(self):
        for value in (*NO_TUPLES, [(0, 4, 1)], ((0, 4, 1),) * 13, (None,) * 13):
            self.assert_error(BadDemands, loads, GRAPH, WEIGHTS, value, index=None)

    def test_no_demand(self):
        wrong = [(), (0, 4), (0, 4, 1, 1), [0, 4, 1], "041", None, 0, ((0, 4, 1),)]
        wrong += [(7, 4, 1), (-1, 4, 1), (0, 7, 1), (0, -1, 1), (4, 4, 1), (0, 4, 0), (0, 4, 101), (0, 4, -1)]
        for value in NO_INTEGERS:
            wrong += [(value, 4, 1), (2, value, 1), (0, 4, value)]
        for item in wrong:
            self.assert_error(BadDemands, loads, GRAPH, WEIGHTS, (item,), index=0)
            # Also behind a demand without a path.
            self.assert_error(BadDemands, loads, GRAPH, WEIGHTS, ((0, 4, 1), (4, 0, 100), item, None), index=2)


class ErrorsTest(Raises, unittest.TestCase):
    def calls(self):
        yield shares, (None, None)
        yield shares_at, (None, None, None)
        yield loads, (None,)

    def test_no_graph(self):
        for call, rest in self.calls():
            for value in NO_OBJECTS:
                self.assert_error(NotGraph, call, value, None, *rest)

    def test_no_weights(self):
        for call, rest in self.calls():
            for value in (*NO_TUPLES, WEIGHTS[1:], (*WEIGHTS, 1)):
                self.assert_error(BadWeights, call, GRAPH, value, *rest, index=None)
            for value in (0, 101, *NO_INTEGERS):
                self.assert_error(BadWeights, call, GRAPH, (*WEIGHTS[:5], value, 1, value, 1), *rest, index=5)

    def test_no_nodes(self):
        for value in (7, -1, 10 ** 30, *NO_INTEGERS):
            self.assert_error(BadNode, shares, GRAPH, WEIGHTS, value, 4)
            self.assert_error(BadNode, shares, GRAPH, WEIGHTS, 0, value)
            self.assert_error(BadNode, shares_at, GRAPH, WEIGHTS, value, 4, 0)
            self.assert_error(BadNode, shares_at, GRAPH, WEIGHTS, 0, value, 0)


if __name__ == "__main__":
    unittest.main()
