"""Points 31 to 34: trades, paid paths and rings of customers."""

import itertools
import random
import unittest

from routeweb.choices import Choices, stable_of, wheel
from routeweb.errors import BadNode, BadTrade, NotTrade, TooMany
from routeweb.trades import Trade, is_paid, paid_paths, ring_of_customers, trade_choices
from tests.values import NO_INTEGERS, NO_OBJECTS, NO_TUPLES, Raises

# Node 0 is a customer of 1 and 2, which are peers and customers of 3; 4 is a customer of 2 and a peer of 3.
TRADE = Trade(5, ((1, 0), (2, 0), (3, 1), (3, 2), (2, 4)), ((2, 1), (3, 4)))
ALONE = Trade(1, (), ())


def some_trades(many, most=6):
    made = random.Random(many)
    for _ in range(many):
        size = made.randint(1, most)
        customers, peers = [], []
        for pair in itertools.combinations(range(size), 2):
            pair = pair[::made.choice((1, -1))]
            kind = made.random()
            if kind < 0.5:
                customers.append(pair)
            elif kind < 0.7:
                peers.append(pair)
        made.shuffle(customers)
        yield Trade(size, tuple(customers), tuple(peers)), size, set(customers), set(peers)


def paid_by_definition(customers, peers, path):
    def linked(one, other):
        return {(one, other), (other, one)} & (customers | peers)
    if not all(linked(one, other) for one, other in zip(path, path[1:])):
        return False
    return all((node, ahead) in customers or (node, behind) in customers
               for ahead, node, behind in zip(path, path[1:], path[2:]))


class TradeTest(Raises, unittest.TestCase):
    def test_limits(self):
        Trade(1, (), ())
        pairs = tuple(itertools.combinations(range(8), 2))
        Trade(8, pairs, ())
        Trade(8, (), pairs)
        Trade(8, pairs[:14], pairs[14:])
        for size in (0, 9, -1, 10 ** 30, *NO_INTEGERS):
            self.assert_error(BadTrade, Trade, size, (), (), index=None)

    def test_wrong_tuples(self):
        for value in NO_TUPLES:
            self.assert_error(BadTrade, Trade, 3, value, (), index=None)
            self.assert_error(BadTrade, Trade, 3, (), value, index=None)
            # A tuple that is none is told ahead of a wrong item of the other one.
            self.assert_error(BadTrade, Trade, 3, (None,), value, index=None)
        for size in (0, 9):
            self.assert_error(BadTrade, Trade, size, (None,), (), index=None)

    def test_more_than_56_pairs(self):
        self.assert_error(BadTrade, Trade, 8, ((0, 1),) * 57, (), index=None)
        self.assert_error(BadTrade, Trade, 8, ((0, 1),) * 56, (), index=1)
        self.assert_error(BadTrade, Trade, 8, (), ((0, 1),) * 57, index=None)
        self.assert_error(BadTrade, Trade, 8, (), ((0, 1),) * 56, index=1)
        self.assert_error(BadTrade, Trade, 8, ((0, 1),) * 56, ((0, 1),) * 57, index=None)

    def test_wrong_pairs(self):
        wrong = [(), (0,), (0, 1, 2), (0, 0), (2, 2), (0, 3), (3, 0), (-1, 0), [0, 1], "01", 1, None, ((0, 1),)]
        for value in NO_INTEGERS:
            wrong += [(value, 2), (2, value), value]
        for pair in wrong:
            self.assert_error(BadTrade, Trade, 3, (pair,), (), index=0)
            self.assert_error(BadTrade, Trade, 3, ((0, 1), pair, None), (None,), index=1)
            self.assert_error(BadTrade, Trade, 3, (), (pair, (0, 1)), index=0)
            self.assert_error(BadTrade, Trade, 3, ((0, 1),), ((0, 2), pair, None), index=2)

    def test_two_nodes_of_an_earlier_pair(self):
        for pair in ((1, 2), (2, 1)):
            self.assert_error(BadTrade, Trade, 4, ((0, 1), (1, 2), (0, 2), pair, pair), (), index=3)
            self.assert_error(BadTrade, Trade, 4, (), ((1, 2), (0, 2), pair, None), index=2)
            self.assert_error(BadTrade, Trade, 4, ((1, 2), (0, 2)), ((0, 1), pair, None), index=3)
            self.assert_error(BadTrade, Trade, 4, ((1, 2),), (pair,), index=1)
            self.assert_error(BadTrade, Trade, 4, ((2, 1),), (pair,), index=1)
            self.assert_error(BadTrade, Trade, 4, (), ((0, 3), (2, 1), pair), index=2)


class IsPaidTest(Raises, unittest.TestCase):
    def test_one_or_two_nodes(self):
        for node in range(5):
            self.assertIs(is_paid(TRADE, (node,)), True)
        # The customer, the provider and the peer of the next one.
        for path in ((0, 1), (1, 0), (1, 2), (2, 1), (3, 4), (4, 3), (4, 2), (2, 4)):
            self.assertIs(is_paid(TRADE, path), True)
        for path in ((0, 3), (3, 0), (0, 4), (1, 4), (4, 1)):
            self.assertIs(is_paid(TRADE, path), False)

    def test_inner_nodes(self):
        paid = [(0, 1, 2), (1, 2, 0), (1, 3, 2), (0, 1, 3), (0, 1, 3, 2), (4, 2, 0), (0, 1, 3, 2, 4), (0, 1, 2, 4)]
        paid += [(1, 3, 4), (0, 1, 3, 4)]
        for path in paid:
            self.assertIs(is_paid(TRADE, path), True, path)
            self.assertIs(is_paid(TRADE, path[::-1]), True, path)
        # Nobody pays a customer of both, or a customer of one and a peer of the other.
        for path in ((1, 0, 2), (2, 4, 3), (3, 2, 1), (1, 2, 3), (0, 2, 1, 3), (2, 1, 3), (0, 1, 2, 3)):
            self.assertIs(is_paid(TRADE, path), False, path)
            self.assertIs(is_paid(TRADE, path[::-1]), False, path)

    def test_two_peers_in_a_row(self):
        trade = Trade(4, ((3, 0),), ((0, 1), (1, 2)))
        self.assertIs(is_paid(trade, (0, 1, 2)), False)
        self.assertIs(is_paid(trade, (3, 0, 1)), False)
        self.assertIs(is_paid(Trade(3, ((1, 0),), ((1, 2),)), (0, 1, 2)), True)
        self.assertIs(is_paid(Trade(3, ((1, 0),), ((1, 2),)), (2, 1, 0)), True)

    def test_by_definition(self):
        for trade, size, customers, peers in some_trades(60, 5):
            for many in range(1, size + 1):
                for path in itertools.permutations(range(size), many):
                    self.assertIs(is_paid(trade, path), paid_by_definition(customers, peers, path))

    def test_any_value(self):
        wrong = [(), (0, 1, 0), (1, 1), (0, 0), (5,), (-1,), (0, 5), [0, 1], (0, (1,)), "01", (10 ** 30,), ((0, 1),)]
        for value in (*wrong, *NO_TUPLES, *NO_OBJECTS, TRADE, (TRADE,)):
            if value != (0,):
                self.assertIs(is_paid(TRADE, value), False, value)
        for value in NO_INTEGERS:
            for path in ((value,), (value, 1), (1, value), (0, value, 2)):
                self.assertIs(is_paid(TRADE, path), False, path)

    def test_no_trade(self):
        for value in NO_OBJECTS:
            self.assert_error(NotTrade, is_paid, value, (0,))
            self.assert_error(NotTrade, is_paid, value, None)


class PaidPathsTest(Raises, unittest.TestCase):
    def test_order(self):
        # First by the customer, though the way by it is longer; then by the peer; then by the provider.
        trade = Trade(5, ((1, 2), (2, 0), (3, 0), (4, 0), (4, 1)), ((1, 3),))
        self.assertEqual(paid_paths(trade, 1), [(1, 2, 0), (1, 3, 0), (1, 4, 0)])
        self.assertEqual(paid_paths(trade, 2), [(2, 0), (2, 1, 3, 0), (2, 1, 4, 0)])
        self.assertEqual(paid_paths(TRADE, 3), [(3, 1, 0), (3, 2, 0)])
        self.assertEqual(paid_paths(TRADE, 4), [(4, 3, 1, 0), (4, 3, 2, 0), (4, 2, 0), (4, 2, 1, 0), (4, 2, 3, 1, 0)])

    def test_short_ones_first_then_ascending(self):
        trade = Trade(5, ((4, 3), (3, 2), (4, 2), (2, 0), (4, 1), (1, 0)), ())
        self.assertEqual(paid_paths(trade, 4), [(4, 1, 0), (4, 2, 0), (4, 3, 2, 0)])

    def test_goal(self):
        self.assertEqual(paid_paths(TRADE, 0), [])
        self.assertEqual(paid_paths(ALONE, 0), [])
        self.assertEqual(paid_paths(Trade(3, ((0, 1),), ()), 2), [])

    def test_all_of_them(self):
        # As many as there can be without a limit: each node is a provider of all later ones.
        trade = Trade(8, tuple(itertools.combinations(range(8), 2)), ())
        self.assertEqual([len(paid_paths(trade, node)) for node in (1, 2, 7)], [1, 2, 64])

    def test_by_definition(self):
        for trade, size, customers, peers in some_trades(80):
            for node in range(size):
                others = [other for other in range(1, size) if other != node]
                found = [(node, *between, 0) for many in range(len(others) + 1)
                         for between in itertools.permutations(others, many)] if node else []
                found = [path for path in found if paid_by_definition(customers, peers, path)]

                def rank(path):
                    kind = 0 if path[:2] in customers else 2 if path[1::-1] in customers else 1
                    return (kind, len(path), path)
                self.assertEqual(paid_paths(trade, node), sorted(found, key=rank))

    def test_errors_in_order(self):
        for value in NO_OBJECTS:
            self.assert_error(NotTrade, paid_paths, value, None)
        for node in (5, -1, 10 ** 30, *NO_INTEGERS):
            self.assert_error(BadNode, paid_paths, TRADE, node)


class RingOfCustomersTest(Raises, unittest.TestCase):
    def assert_ring(self, customers, ring):
        self.assertIsInstance(ring, tuple)
        self.assertGreater(len(ring), 2)
        self.assertEqual(ring[0], ring[-1])
        self.assertEqual(len(set(ring)), len(ring) - 1)
        self.assertTrue(set(zip(ring, ring[1:])) <= set(customers))

    def test_ring(self):
        customers = ((1, 2), (2, 3), (3, 1), (0, 1), (3, 4))
        ring = ring_of_customers(Trade(5, customers, ((0, 4),)))
        self.assertEqual(len(ring), 4)
        self.assert_ring(customers, ring)

    def test_none(self):
        self.assertIsNone(ring_of_customers(TRADE))
        self.assertIsNone(ring_of_customers(ALONE))
        # Peers make no ring.
        self.assertIsNone(ring_of_customers(Trade(3, (), ((0, 1), (1, 2), (2, 0)))))
        self.assertIsNone(ring_of_customers(Trade(3, ((0, 1), (1, 2)), ((2, 0),))))

    def test_by_definition(self):
        told = {True: 0, False: 0}
        for trade, size, customers, _ in some_trades(200):
            rings = [ring for many in range(3, size + 1) for ring in itertools.permutations(range(size), many)
                     if set(zip(ring, (*ring[1:], ring[0]))) <= customers]
            ring = ring_of_customers(trade)
            self.assertEqual(ring is not None, len(rings) > 0)
            if ring is not None:
                self.assert_ring(customers, ring)
            told[ring is not None] += 1
        self.assertGreater(min(told.values()), 20, told)

    def test_no_trade(self):
        for value in NO_OBJECTS:
            self.assert_error(NotTrade, ring_of_customers, value)


class TradeChoicesTest(Raises, unittest.TestCase):
    def test_lists(self):
        self.assertEqual(trade_choices(ALONE).lists, ())
        self.assertEqual(trade_choices(Trade(2, (), ())).lists, ((),))
        trade = Trade(3, ((1, 0), (2, 0)), ((1, 2),))
        self.assertEqual(trade_choices(trade).lists, (((1, 0), (1, 2, 0)), ((2, 0), (2, 1, 0))))
        self.assertIsInstance(trade_choices(trade), Choices)

    def test_same_order(self):
        for trade, size, _, _ in some_trades(60, 5):
            lists = [paid_paths(trade, node) for node in range(1, size)]
            if all(len(paths) <= 10 for paths in lists):
                choices = trade_choices(trade)
                self.assertEqual([list(paths) for paths in choices.lists], lists)
                if ring_of_customers(trade) is None:
                    self.assertIsNone(wheel(choices))
                    self.assertEqual(len(stable_of(choices)), 1)

    def test_too_many(self):
        # Each node is a customer of all before it, so that it has as many paths as all of them together.
        pairs = (*itertools.combinations(range(5), 2), (2, 5), (4, 5))
        self.assertEqual([len(paths) for paths in trade_choices(Trade(6, pairs, ())).lists], [1, 2, 4, 8, 10])
        trade = Trade(6, (*pairs, (0, 5)), ())
        self.assertEqual(len(paid_paths(trade, 5)), 11)
        self.assert_error(TooMany, trade_choices, trade, most=10)

    def test_no_trade(self):
        for value in NO_OBJECTS:
            self.assert_error(NotTrade, trade_choices, value)


if __name__ == "__main__":
    unittest.main()
