"""Points 11 to 17: networks, routes, choices, stable states, rounds and greedy states."""

import itertools
import random
import unittest

from routeweb.algebras import Algebra, growing_break, isotone_break, strict_break
from routeweb.errors import BadNetwork, BadNode, BadRoute, BadState, NotAlgebra, NotNetwork, NotSettled, TooMany
from routeweb.networks import (
    Network, best_level, choice, detour, greedy_state, quarrel, rounds, route_value, routes_of, stable_states,
)
from tests.test_algebras import some_algebras
from tests.values import NO_INTEGERS, NO_OBJECTS, NO_TUPLES, Raises

HOPS = Algebra((0, 1, 2), ((1, 2, None),))
# All routes are alike, but for the order of their nodes.
FLAT = Algebra((0,), ((0,),))
# Each step of a route makes it better.
SHRINKING = Algebra((3, 2, 1, 0), ((1, 2, 3, 3),))
LINE = Network(HOPS, 1, 5, ((1, 0, 0), (2, 1, 0), (3, 2, 0), (4, 3, 0)))
TWO = Network(HOPS, 2, 4, ((2, 0, 1), (3, 1, 0), (2, 3, 0), (3, 2, 0)))

# With all labels but these, node 1 of seven inner ones has just 500 routes; the first one adds one.
LACKING = [(1, 0), (1, 5), (1, 7), (2, 0), (3, 7), (4, 6), (4, 0), (5, 2), (6, 2), (7, 4)]
LACKING += [(tail, 1) for tail in range(2, 8)]


def routes_by_definition(network, ends, size, node):
    """The routes of a node and their elements, by trying all tuples."""
    label_of = {(tail, head): label for tail, head, label in network.labels}
    found = {}
    others = [place for place in range(ends, size) if place != node]
    for many in range(len(others) + 1):
        for between in itertools.permutations(others, many):
            for end in range(ends):
                route = (node, *between, end)
                labels = [label_of.get(pair) for pair in zip(route, route[1:])]
                if None not in labels:
                    made = labels[-1]
                    for function in reversed(labels[:-1]):
                        made = None if made is None else network.algebra.functions[function][made]
                    found[route] = made
    return {route: found[route] for route in sorted(found)}


def best_of(network, found, routes):
    best = None
    for route in routes:
        if found.get(route) is not None:
            level = network.algebra.levels[found[route]]
            if best is None or level < best[0] or (level == best[0] and route > best[1]):
                best = (level, route)
    return None if best is None else best[1]


def choice_by_definition(network, ends, size, node, state):
    found = routes_by_definition(network, ends, size, node)
    rests = [(end,) for end in range(ends)] + [route for route in state if route is not None]
    return best_of(network, found, [(node, *rest) for rest in rests])


def all_states(network, ends, size):
    options = []
    for node in range(ends, size):
        found = routes_by_definition(network, ends, size, node)
        options.append([None] + [route for route in found if found[route] is not None])
    return itertools.product(*options)


def some_networks(many, algebras, most):
    made = random.Random(many)
    for algebra in algebras:
        ends = made.choice((1, 1, 2, 3))
        size = ends + made.randint(0, most)
        labels = []
        for tail, head in itertools.product(range(ends, size), range(size)):
            if tail != head and made.random() < 0.7:
                labels.append((tail, head, made.randrange(len(algebra.levels if head < ends else algebra.functions))))
        made.shuffle(labels)
        yield Network(algebra, ends, size, tuple(labels)), ends, size


def full_network(algebra, inner, lacking=()):
    """One terminal, and all labels 0 but the lacking ones."""
    pairs = [(tail, head) for tail in range(1, inner + 1) for head in range(inner + 1) if tail != head]
    return Network(algebra, 1, inner + 1, tuple((*pair, 0) for pair in pairs if pair not in lacking))


# 40 labels, with more than 500 routes of node 1.
LARGE = full_network(FLAT, 7, [(1, 0), (2, 0), (3, 0), (4, 0), (2, 1), (3, 1), (4, 1), (5, 1), (6, 1)])


class NetworkTest(Raises, unittest.TestCase):
    def test_labels_in_any_order(self):
        algebra = Algebra((0, 1), ((0, 1), (1, 1), (None, 0)))
        network = Network(algebra, 2, 4, ((3, 2, 2), (2, 3, 0), (3, 1, 0), (2, 1, 1), (2, 0, 1)))
        self.assertEqual(network.labels, ((2, 0, 1), (2, 1, 1), (2, 3, 0), (3, 1, 0), (3, 2, 2)))
        self.assertTrue(network.algebra == algebra)
        self.assertIs(network.algebra, algebra)

    def test_limits(self):
        self.assertEqual(Network(HOPS, 1, 1, ()).labels, ())
        self.assertEqual(Network(HOPS, 3, 3, ()).labels, ())
        self.assertEqual(len(Network(HOPS, 3, 8, ((7, 2, 0),)).labels), 1)

    def test_most_labels(self):
        pairs = [(tail, head, 0) for tail in range(1, 8) for head in range(8) if tail != head]
        self.assertEqual(len(Network(HOPS, 1, 8, tuple(pairs[:40])).labels), 40)
        self.assert_error(BadNetwork, Network, HOPS, 1, 8, tuple(pairs[:41]), index=None)

    def test_wrong_ends(self):
        for ends in (0, 4, -1, 10 ** 30, *NO_INTEGERS):
            self.assert_error(BadNetwork, Network, HOPS, ends, 5, ((9,),), index=None)

    def test_wrong_size(self):
        for size in (0, 1, 9, -1, 10 ** 30, *NO_INTEGERS):
            self.assert_error(BadNetwork, Network, HOPS, 2, size, ((9,),), index=None)

    def test_wrong_tuple(self):
        for labels in NO_TUPLES:
            self.assert_error(BadNetwork, Network, HOPS, 1, 3, labels, index=None)

    def test_wrong_label(self):
        algebra = Algebra((0, 1, 2), ((0, 1, 2), (1, 2, None)))
        wrong = [(2, 0), (2, 0, 0, 0), (), (2, 2, 0), (0, 2, 0), (0, 1, 0), (1, 0, 0), (4, 2, 0), (2, 4, 0), (-1, 2, 0)]
        wrong += [(2, 0, 3), (2, 0, -1), (2, 3, 2), (2, 3, -1), *NO_TUPLES, (((2, 0), 0), 0, 0), ([2], 0, 0)]
        for value in NO_INTEGERS:
            wrong += [(value, 0, 0), (2, value, 0), (2, 0, value), (2, 3, value)]
        for item in wrong:
            self.assert_error(BadNetwork, Network, algebra, 2, 4, (item,), index=0)
            self.assert_error(BadNetwork, Network, algebra, 2, 4, ((2, 0, 2), (2, 3, 1), item, None), index=2)

    def test_repeated_pair(self):
        self.assert_error(BadNetwork, Network, HOPS, 1, 3, ((1, 0, 0), (2, 0, 0), (1, 0, 1), None), index=2)
        self.assert_error(BadNetwork, Network, HOPS, 1, 3, ((1, 0, 0), (1, 0, 0)), index=1)

    def test_no_algebra_is_first(self):
        for value in NO_OBJECTS:
            self.assert_error(NotAlgebra, Network, value, None, None, None)


class RoutesTest(Raises, unittest.TestCase):
    def test_routes(self):
        self.assertEqual(routes_of(LINE, 1), [(1, 0)])
        self.assertEqual(routes_of(LINE, 3), [(3, 2, 1, 0)])
        self.assertEqual(routes_of(TWO, 2), [(2, 0), (2, 3, 1)])
        self.assertEqual(routes_of(TWO, 3), [(3, 1), (3, 2, 0)])

    def test_denied_routes(self):
        self.assertEqual(routes_of(LINE, 4), [])
        self.assert_error(BadRoute, route_value, LINE, (4, 3, 2, 1, 0))

    def test_a_route_does_not_pass_a_terminal(self):
        network = Network(HOPS, 2, 4, ((2, 0, 0), (2, 3, 0), (3, 1, 0)))
        self.assertEqual(routes_of(network, 2), [(2, 0), (2, 3, 1)])

    def test_functions_from_back_to_front(self):
        algebra = Algebra((0, 1, 2), ((1, 1, 1), (2, 2, 0)))
        network = Network(algebra, 1, 4, ((1, 0, 0), (2, 1, 0), (3, 2, 1)))
        self.assertEqual(route_value(network, (2, 1, 0)), 1)
        self.assertEqual(route_value(network, (3, 2, 1, 0)), 2)
        network = Network(algebra, 1, 4, ((1, 0, 0), (2, 1, 1), (3, 2, 0)))
        self.assertEqual(route_value(network, (3, 2, 1, 0)), 1)

    def test_best_level(self):
        self.assertEqual([best_level(LINE, node) for node in (1, 2, 3, 4)], [0, 1, 2, None])
        self.assertEqual(best_level(TWO, 2), 1)
        self.assertIsNone(best_level(Network(HOPS, 1, 2, ()), 1))
        self.assertEqual(best_level(full_network(SHRINKING, 3), 2), 1)
        self.assertEqual(best_level(Network(Algebra((9, 4), ((0, 0),)), 1, 2, ((1, 0, 1),)), 1), 4)

    def test_by_definition(self):
        for network, ends, size in some_networks(150, some_algebras(150), 4):
            for node in range(ends, size):
                found = routes_by_definition(network, ends, size, node)
                routes = [route for route in found if found[route] is not None]
                self.assertEqual(routes_of(network, node), routes)
                self.assertEqual([route_value(network, route) for route in routes], [found[route] for route in routes])
                levels = [network.algebra.levels[found[route]] for route in routes]
                self.assertEqual(best_level(network, node), min(levels, default=None))

    def test_too_many(self):
        self.assertEqual(len(routes_of(full_network(FLAT, 6), 1)), 326)
        self.assert_error(TooMany, routes_of, LARGE, 1, most=500)
        self.assert_error(TooMany, best_level, LARGE, 1, most=500)

    def test_just_500(self):
        network = full_network(FLAT, 7, LACKING)
        self.assertEqual(len(routes_of(network, 1)), 500)
        self.assertEqual(best_level(network, 1), 0)
        network = full_network(FLAT, 7, LACKING[1:])
        self.assert_error(TooMany, routes_of, network, 1, most=500)
        self.assert_error(TooMany, best_level, network, 1, most=500)

    def test_denied_routes_are_counted(self):
        denying = Algebra((0,), ((None,),))
        network = full_network(denying, 7, LACKING)
        self.assertEqual(routes_of(network, 1), [])
        self.assertIsNone(best_level(network, 1))
        network = full_network(denying, 7, LACKING[1:])
        self.assert_error(TooMany, routes_of, network, 1, most=500)
        self.assert_error(TooMany, best_level, network, 1, most=500)
        self.assertEqual(route_value(network, (1, 0)), 0)

    def test_tuples_that_end_nowhere_are_not_counted(self):
        network = full_network(FLAT, 7, [*LACKING[1:], *[(tail, 0) for tail in range(2, 8)]])
        self.assertEqual(routes_of(network, 1), [(1, 0)])

    def test_no_route(self):
        wrong = [(1,), (0,), (2, 1), (2, 0), (1, 2, 0), (2, 1, 2, 1, 0), (3, 2, 1), (5, 0), (-4, 0), (1, 0, 0), (0, 1)]
        wrong += [(4, 3, 2, 1, 0), (), ((1, 0),), [1, 0], (1, False), (True, 0), (2, True, 0), *NO_TUPLES]
        for route in wrong:
            self.assert_error(BadRoute, route_value, LINE, route)
        for route in ((2, 0, 1), (2, 3, 0), (3, 0), (0, 1), (1,), (2, 3, 2, 0)):
            self.assert_error(BadRoute, route_value, TWO, route)

    def test_errors_in_order(self):
        for value in NO_OBJECTS:
            self.assert_error(NotNetwork, routes_of, value, None)
            self.assert_error(NotNetwork, best_level, value, None)
            self.assert_error(NotNetwork, route_value, value, None)
        for node in (0, 1, 4, -1, *NO_INTEGERS):
            self.assert_error(BadNode, routes_of, TWO, node)
            self.assert_error(BadNode, best_level, TWO, node)

    def test_new_list(self):
        routes_of(LINE, 1).clear()
        self.assertEqual(routes_of(LINE, 1), [(1, 0)])


class ChoiceTest(Raises, unittest.TestCase):
    def test_least_level(self):
        network = Network(HOPS, 1, 4, ((1, 0, 0), (2, 0, 1), (3, 1, 0), (3, 2, 0), (3, 0, 2)))
        self.assertEqual(choice(network, 3, ((1, 0), (2, 0), None)), (3, 1, 0))
        self.assertEqual(choice(network, 3, (None, (2, 0), None)), (3, 2, 0))
        self.assertEqual(choice(network, 3, (None, None, None)), (3, 0))

    def test_greatest_of_one_level(self):
        network = Network(FLAT, 2, 5, ((2, 0, 0), (3, 1, 0), (3, 2, 0), (4, 0, 0), (4, 1, 0), (4, 2, 0), (4, 3, 0)))
        self.assertEqual(choice(network, 4, (None, None, None)), (4, 1))
        self.assertEqual(choice(network, 4, ((2, 0), None, None)), (4, 2, 0))
        self.assertEqual(choice(network, 4, ((2, 0), (3, 1), None)), (4, 3, 1))
        self.assertEqual(choice(network, 4, ((2, 0), (3, 2, 0), None)), (4, 3, 2, 0))

    def test_none(self):
        self.assertIsNone(choice(LINE, 2, (None, None, None, None)))
        self.assertIsNone(choice(LINE, 4, ((1, 0), (2, 1, 0), (3, 2, 1, 0), None)))

    def test_routes_that_are_not_in_use(self):
        # Node 3 has a route by node 2, which has none: node 4 may go on as it all the same.
        network = Network(FLAT, 1, 5, ((1, 0, 0), (2, 1, 0), (3, 2, 0), (4, 3, 0)))
        self.assertEqual(choice(network, 4, (None, None, (3, 2, 1, 0), None)), (4, 3, 2, 1, 0))
        self.assertIsNone(choice(network, 3, (None, None, (3, 2, 1, 0), None)))

    def test_own_route_and_rings(self):
        network = Network(FLAT, 1, 3, ((1, 0, 0), (1, 2, 0), (2, 1, 0)))
        self.assertEqual(choice(network, 1, ((1, 0), (2, 1, 0))), (1, 0))
        self.assertEqual(choice(network, 2, ((1, 0), (2, 1, 0))), (2, 1, 0))

    def test_by_definition(self):
        made = random.Random(4)
        for network, ends, size in some_networks(60, some_algebras(60), 3):
            states = list(all_states(network, ends, size))
            for state in made.sample(states, min(len(states), 30)):
                for node in range(ends, size):
                    wanted = choice_by_definition(network, ends, size, node, state)
                    self.assertEqual(choice(network, node, state), wanted)

    def test_wrong_state(self):
        calls = (lambda network, state: choice(network, 2, state), rounds)
        for call in calls:
            for state in (*NO_TUPLES, (), (None,), (None, None, None)):
                self.assert_error(BadState, call, TWO, state, index=None)
            wrong = [(3, 1), (2,), (2, 1), (2, 3), (2, 3, 2, 0), (0, 2), [2, 0], (2, False), ((2, 0),), (True,)]
            for item in wrong + [value for value in NO_TUPLES if value is not None]:
                self.assert_error(BadState, call, TWO, (item, 7), index=0)
            for item in ((2, 0), (3, 2, 1), (3, 2, False), 3, False):
                self.assert_error(BadState, call, TWO, ((2, 0), item), index=1)
            self.assert_error(BadState, call, LINE, (None, None, None, (4, 3, 2, 1, 0)), index=3)

    def test_errors_in_order(self):
        for value in NO_OBJECTS:
            self.assert_error(NotNetwork, choice, value, None, None)
            self.assert_error(NotNetwork, rounds, value, None)
            self.assert_error(NotNetwork, stable_states, value)
        for node in (0, 1, 4, *NO_INTEGERS):
            self.assert_error(BadNode, choice, TWO, node, None)


class StableStatesTest(Raises, unittest.TestCase):
    def test_one(self):
        self.assertEqual(stable_states(LINE), [((1, 0), (2, 1, 0), (3, 2, 1, 0), None)])

    def test_no_inner_nodes(self):
        self.assertEqual(stable_states(Network(HOPS, 2, 2, ())), [()])

    def test_order_by_second_nodes(self):
        # Two quarrels side by side, of nodes 1 and 2 and of nodes 3 and 4.
        labels = [(node, 0, 0) for node in (1, 2, 3, 4)] + [(1, 2, 0), (2, 1, 0), (3, 4, 0), (4, 3, 0)]
        network = Network(FLAT, 1, 5, tuple(labels))
        one = [((1, 0), (2, 1, 0)), ((1, 2, 0), (2, 0))]
        other = [((3, 0), (4, 3, 0)), ((3, 4, 0), (4, 0))]
        self.assertEqual(stable_states(network), [(*left, *right) for left in one for right in other])

    def test_none_counts_as_least(self):
        # Nodes 2 and 3 quarrel; node 1 has a route only if node 2 goes straight.
        algebra = Algebra((1, 0), ((1, None),))
        network = Network(algebra, 1, 4, ((1, 2, 0), (2, 0, 0), (2, 3, 0), (3, 0, 0), (3, 2, 0)))
        states = [(None, (2, 3, 0), (3, 0)), ((1, 2, 0), (2, 0), (3, 2, 0))]
        self.assertEqual(stable_states(network), states)

    def test_none_counts_as_less_than_node_1(self):
        # Nodes 3 and 4 quarrel; node 1 always goes by node 3, node 2 by node 1, if node 3 goes straight.
        algebra = Algebra((1, 0, 2, 2), ((1, None, None, None), (2, 3, None, None), (None, None, 2, None)))
        labels = ((1, 3, 1), (2, 1, 2), (3, 0, 0), (3, 4, 0), (4, 0, 0), (4, 3, 0))
        states = [((1, 3, 4, 0), None, (3, 4, 0), (4, 0)), ((1, 3, 0), (2, 1, 3, 0), (3, 0), (4, 3, 0))]
        self.assertEqual(stable_states(Network(algebra, 1, 5, labels)), states)

    def test_none_at_all(self):
        # Each of three nodes prefers the way by the next one to its own, and nothing longer.
        algebra = Algebra((1, 0), ((1, None),))
        network = Network(algebra, 1, 4, ((1, 0, 0), (2, 0, 0), (3, 0, 0), (1, 2, 0), (2, 3, 0), (3, 1, 0)))
        self.assertEqual(stable_states(network), [])

    def test_by_definition(self):
        several = 0
        for network, ends, size in some_networks(120, some_algebras(120), 3):
            found = []
            for state in all_states(network, ends, size):
                kept = [choice_by_definition(network, ends, size, node, state) for node in range(ends, size)]
                if list(state) == kept:
                    found.append(state)
            found.sort(key=lambda state: [-1 if route is None else route[1] for route in state])
            self.assertEqual(stable_states(network), found)
            several += len(found) > 1
        self.assertGreater(several, 3)

    def test_just_one_in_strict_algebras(self):
        strict = [algebra for algebra in some_algebras(600) if strict_break(algebra) is None]
        self.assertGreater(len(strict), 30)
        for network, _, _ in some_networks(7, strict, 5):
            self.assertEqual(len(stable_states(network)), 1)

    def test_more_than_500_routes(self):
        network = Network(HOPS, 1, 8, LARGE.labels)
        state = ((1, 7, 0), (2, 7, 0), (3, 7, 0), (4, 7, 0), (5, 0), (6, 0), (7, 0))
        self.assertEqual(stable_states(network), [state])

    def test_new_list(self):
        stable_states(LINE).clear()
        self.assertEqual(len(stable_states(LINE)), 1)


class RoundsTest(unittest.TestCase):
    def test_stays_at_once(self):
        state = ((1, 0), (2, 1, 0), (3, 2, 1, 0), None)
        self.assertEqual(rounds(LINE, state), [state])
        self.assertEqual(rounds(Network(HOPS, 1, 1, ()), ()), [()])

    def test_up_to_one_that_stays(self):
        states = [(None, None, None, None), ((1, 0), None, None, None), ((1, 0), (2, 1, 0), None, None)]
        self.assertEqual(rounds(LINE, states[0]), [*states, ((1, 0), (2, 1, 0), (3, 2, 1, 0), None)])

    def test_comes_again(self):
        network = quarrel(FLAT)
        here, there = ((1, 0), (2, 0)), ((1, 2, 0), (2, 1, 0))
        self.assertEqual(rounds(network, here), [here, there, here])
        self.assertEqual(rounds(network, (None, None)), [(None, None), here, there, here])
        self.assertEqual(rounds(network, ((1, 2, 0), (2, 0))), [((1, 2, 0), (2, 0))])

    def test_by_definition(self):
        again = 0
        for network, ends, size in some_networks(90, some_algebras(90), 3):
            for start in itertools.islice(all_states(network, ends, size), 0, None, 7):
                states = rounds(network, start)
                self.assertEqual(states[0], start)
                for state, after in zip(states, states[1:]):
                    kept = [choice_by_definition(network, ends, size, node, state) for node in range(ends, size)]
                    self.assertEqual(list(after), kept)
                self.assertEqual(len(set(states[:-1])), len(states[:-1]))
                last = tuple(choice(network, node, states[-1]) for node in range(ends, size))
                if last == states[-1]:
                    self.assertNotIn(last, states[:-1])
                else:
                    self.assertIn(states[-1], states[:-1])
                    again += 1
        self.assertGreater(again, 3)


class QuarrelTest(Raises, unittest.TestCase):
    def test_quarrel(self):
        self.assertIsNone(quarrel(HOPS))
        algebra = Algebra((3, 1, 3), ((None, 0, None), (None, 2, 1)))
        network = quarrel(algebra)
        self.assertIsInstance(network, Network)
        self.assertEqual(network.labels, ((1, 0, 2), (1, 2, 1), (2, 0, 2), (2, 1, 1)))
        self.assertTrue(network.algebra == algebra)
        self.assert_error(BadNode, routes_of, network, 0)
        self.assert_error(BadNode, routes_of, network, 3)
        self.assertEqual(routes_of(network, 2), [(2, 0), (2, 1, 0)])

    def test_quarrels_have_two_stable_states(self):
        for algebra in some_algebras(80):
            network = quarrel(algebra)
            if network is not None:
                self.assertEqual(stable_states(network), [((1, 0), (2, 1, 0)), ((1, 2, 0), (2, 0))])

    def test_detour(self):
        self.assertIsNone(detour(HOPS))
        algebra = Algebra((0, 1, 2), ((1, 1, 2), (1, 2, 0)))
        network = detour(algebra)
        self.assertIsInstance(network, Network)
        self.assertEqual(network.labels, ((2, 0, 2), (2, 1, 0), (3, 2, 1)))
        self.assertTrue(network.algebra == algebra)
        self.assert_error(BadNode, routes_of, network, 1)
        self.assert_error(BadNode, routes_of, network, 4)
        self.assertEqual(stable_states(network), [((2, 1), (3, 2, 1))])
        self.assertEqual((best_level(network, 3), route_value(network, (3, 2, 1))), (0, 1))

    def test_detours_miss_the_best(self):
        for algebra in some_algebras(80):
            network = detour(algebra)
            if network is not None:
                for state in stable_states(network):
                    route = state[1]
                    level = None if route is None else algebra.levels[route_value(network, route)]
                    self.assertNotEqual(level, best_level(network, 3))

    def test_no_algebra(self):
        for value in NO_OBJECTS:
            self.assert_error(NotAlgebra, quarrel, value)
            self.assert_error(NotAlgebra, detour, value)


class GreedyStateTest(Raises, unittest.TestCase):
    def test_one_by_one(self):
        self.assertEqual(greedy_state(LINE), ((1, 0), (2, 1, 0), (3, 2, 1, 0), None))
        self.assertEqual(greedy_state(TWO), ((2, 3, 1), (3, 1)))
        self.assertEqual(greedy_state(Network(HOPS, 1, 1, ())), ())

    def test_greatest_of_one_level(self):
        # Of (1, 0), (2, 0) and (3, 0) the last one is first; then (2, 3, 0) is ahead of (2, 0) and (1, 0).
        network = full_network(FLAT, 3)
        self.assertEqual(greedy_state(network), ((1, 3, 0), (2, 3, 0), (3, 0)))
        network = full_network(FLAT, 3, ((1, 3), (2, 3)))
        self.assertEqual(greedy_state(network), ((1, 2, 0), (2, 0), (3, 0)))

    def test_level_ahead_of_order(self):
        network = Network(HOPS, 1, 4, ((1, 0, 0), (2, 0, 1), (2, 1, 0), (3, 0, 2), (3, 2, 0)))
        self.assertEqual(greedy_state(network), ((1, 0), (2, 1, 0), (3, 2, 1, 0)))

    def test_best_levels(self):
        settling = [a for a in some_algebras(600) if growing_break(a) is None and isotone_break(a) is None]
        self.assertGreater(len(settling), 50)
        for network, ends, size in some_networks(9, settling, 5):
            state = greedy_state(network)
            for node, route in zip(range(ends, size), state):
                level = None if route is None else network.algebra.levels[route_value(network, route)]
                self.assertEqual(level, best_level(network, node))

    def test_not_settled(self):
        self.assert_error(NotSettled, greedy_state, Network(SHRINKING, 1, 3, ()))
        no_isotone = Algebra((0, 1), ((None, 1),))
        self.assertIsNone(growing_break(no_isotone))
        self.assert_error(NotSettled, greedy_state, Network(no_isotone, 1, 3, ()))
        no_growing = Algebra((0, 1), ((0, 0),))
        self.assertIsNone(isotone_break(no_growing))
        self.assert_error(NotSettled, greedy_state, Network(no_growing, 1, 1, ()))

    def test_no_network(self):
        for value in NO_OBJECTS:
            self.assert_error(NotNetwork, greedy_state, value)


if __name__ == "__main__":
    unittest.main()
