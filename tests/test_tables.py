"""Points 45 to 49: tables of prefixes."""

import itertools
import random
import unittest

from routeweb.errors import BadBits, BadNode, BadRules, TooMany
from routeweb.tables import atoms, blocks, first_gap, first_ring, least_rules, lookup, reach, walk
from tests.values import NO_INTEGERS, NO_TUPLES, Raises

RULES = (((), 1), ((0,), 2), ((0, 1), 1), ((1, 1), 2))
FLAT = (((), 0),)
# Node 0 keeps what begins with 0; 1 and 2 send the rest to each other, but 2 keeps (1, 1).
TABLES = ((((), 1), ((0,), 0)), (((), 2), ((0,), 0)), (((), 1), ((0, 0), 1), ((1, 1), 2)))


def addresses(width):
    return list(itertools.product((0, 1), repeat=width))


def prefixes(width):
    return [prefix for length in range(width + 1) for prefix in itertools.product((0, 1), repeat=length)]


def some_rules(made, width, most_hop, many=None):
    """Rules with the prefix () in any place."""
    longer = prefixes(width)[1:]
    picked = made.sample(longer, made.randint(0, min(len(longer), 8)) if many is None else many)
    rules = [(prefix, made.randint(0, most_hop)) for prefix in [(), *picked]]
    made.shuffle(rules)
    return tuple(rules)


def some_tables(many):
    made = random.Random(many)
    for _ in range(many):
        width, size = made.randint(1, 4), made.randint(1, 5)
        yield width, tuple(some_rules(made, width, size - 1) for _ in range(size))


def hop_by_definition(rules, address):
    hops = dict(rules)
    for length in range(len(address), -1, -1):
        if address[:length] in hops:
            return hops[address[:length]]
    raise AssertionError(rules)


def walk_by_definition(tables, node, address):
    passed = []
    while node not in passed:
        passed.append(node)
        after = hop_by_definition(tables[node], address)
        if after == node:
            return tuple(passed), True
        node = after
    return (*passed, node), False


class ErrorsTest(Raises, unittest.TestCase):
    """What functions of rules tell of widths and rules."""

    def assert_bad_rules(self, width, rules, index):
        self.assert_error(BadRules, lookup, width, rules, None, index=index)
        self.assert_error(BadRules, first_gap, width, rules, None, index=index)
        self.assert_error(BadRules, first_gap, width, FLAT, rules, index=index)
        self.assert_error(BadRules, blocks, width, rules, index=index)
        self.assert_error(BadRules, least_rules, width, rules, index=index)

    def test_width(self):
        for width in range(1, 6):
            self.assertEqual(lookup(width, FLAT, (0,) * width), 0)
        for width in (0, 6, -1, 10 ** 30, *NO_INTEGERS):
            for call, count in ((lookup, 2), (first_gap, 2), (blocks, 1), (least_rules, 1)):
                self.assert_error(TooMany, call, width, *[None] * count, most=5)
            for call, count in ((walk, 3), (first_ring, 1), (reach, 3), (atoms, 1)):
                self.assert_error(TooMany, call, width, *[None] * count, most=5)

    def test_no_tuple(self):
        for value in (*NO_TUPLES, list(FLAT)):
            self.assert_bad_rules(2, value, None)

    def test_most_rules(self):
        rules = tuple((prefix, 1) for prefix in prefixes(5))
        self.assertEqual(len(rules), 63)
        self.assertEqual(lookup(5, rules, (0,) * 5), 1)
        self.assert_bad_rules(5, (*rules, rules[0]), None)
        self.assert_bad_rules(5, (None,) * 64, None)
        self.assert_bad_rules(5, (None,) * 63, 0)

    def test_items(self):
        wrong = [(), ((),), ((), 0, 0), [(), 0], ([], 0), ("", 0), ("0", 0), (0, 0), (None, 0), ((0, 0, 0), 0)]
        wrong += [((2,), 0), ((-1,), 0), ((0, 2), 0), (((0,),), 0), ((1,), 8), ((1,), -1), ((1,), 10 ** 30), None, 0]
        for value in NO_INTEGERS:
            wrong += [((value,), 0), ((0, value), 0), ((1,), value)]
        for item in wrong:
            self.assert_bad_rules(2, (item, *FLAT), 0)
            self.assert_bad_rules(2, (*FLAT, ((0,), 7), item, None), 2)
            # A wrong item is told ahead of a prefix () that is lacking.
            self.assert_bad_rules(2, (((0,), 7), item), 1)

    def test_prefix_that_stands_earlier(self):
        self.assert_bad_rules(2, (((), 1), ((0,), 1), ((1,), 1), ((0,), 2), None), 3)
        self.assert_bad_rules(2, (((), 1), ((), 1)), 1)
        self.assert_bad_rules(2, (((0,), 1), ((0,), 1)), 1)

    def test_lacking_prefix(self):
        self.assert_bad_rules(2, (), None)
        self.assert_bad_rules(2, (((0,), 1), ((1,), 1)), None)

    def test_prefix_as_long_as_the_width(self):
        self.assertEqual(lookup(2, (*FLAT, ((0, 1), 7)), (0, 1)), 7)
        self.assert_bad_rules(1, (*FLAT, ((0, 1), 7)), 1)


class LookupTest(Raises, unittest.TestCase):
    def test_longest_prefix(self):
        self.assertEqual([lookup(2, RULES, address) for address in addresses(2)], [2, 1, 1, 2])
        self.assertEqual([lookup(2, RULES[::-1], address) for address in addresses(2)], [2, 1, 1, 2])
        self.assertEqual(lookup(3, RULES, (0, 1, 1)), 1)

    def test_hops(self):
        for hop in range(8):
            self.assertEqual(lookup(1, (((), hop), ((1,), 0)), (0,)), hop)

    def test_by_definition(self):
        made = random.Random(45)
        for _ in range(100):
            width = made.randint(1, 5)
            rules = some_rules(made, width, 7)
            for address in addresses(width):
                self.assertEqual(lookup(width, rules, address), hop_by_definition(rules, address))

    def test_no_address(self):
        wrong = [(), (0,), (0, 1, 0), (0, 2), (-1, 0), [0, 1], "01", ((0, 1),), 1, *NO_TUPLES]
        for value in NO_INTEGERS:
            wrong += [(value, 0), (0, value)]
        for address in wrong:
            self.assert_error(BadBits, lookup, 2, RULES, address)
            self.assert_error(BadBits, walk, 2, TABLES, 0, address)


class FirstGapTest(Raises, unittest.TestCase):
    def test_gaps(self):
        self.assertEqual(first_gap(2, RULES, (((), 2),)), (0, 1))
        self.assertEqual(first_gap(2, (((), 2),), RULES), (0, 1))
        self.assertEqual(first_gap(3, RULES, (((), 2),)), (0, 1, 0))
        self.assertEqual(first_gap(2, (((), 1),), RULES), (0, 0))

    def test_none(self):
        self.assertIsNone(first_gap(2, RULES, RULES))
        self.assertIsNone(first_gap(2, RULES, (((), 7), ((0, 0), 2), ((0, 1), 1), ((1, 0), 1), ((1, 1), 2))))

    def test_by_definition(self):
        made = random.Random(46)
        told = set()
        for _ in range(100):
            width = made.randint(1, 5)
            one, other = some_rules(made, width, 1), some_rules(made, width, 1)
            gaps = [address for address in addresses(width)
                    if hop_by_definition(one, address) != hop_by_definition(other, address)]
            self.assertEqual(first_gap(width, one, other), min(gaps, default=None))
            told.add(bool(gaps))
        self.assertEqual(told, {True, False})


class BlocksTest(unittest.TestCase):
    def test_blocks(self):
        self.assertEqual(blocks(2, RULES), (((0, 0), 2), ((0, 1), 1), ((1, 0), 1), ((1, 1), 2)))
        self.assertEqual(blocks(3, RULES), (((0, 0), 2), ((0, 1), 1), ((1, 0), 1), ((1, 1), 2)))
        self.assertEqual(blocks(3, FLAT), (((), 0),))
        self.assertEqual(blocks(2, (((), 1), ((0, 0), 1), ((1,), 1))), (((), 1),))
        self.assertEqual(blocks(2, (((), 1), ((0, 0), 2))), (((0, 0), 2), ((0, 1), 1), ((1,), 1)))

    def test_by_definition(self):
        made = random.Random(47)
        for _ in range(100):
            width = made.randint(1, 5)
            rules = some_rules(made, width, 2)
            hops = {prefix: {hop_by_definition(rules, address) for address in addresses(width)
                             if address[:len(prefix)] == prefix} for prefix in prefixes(width)}
            found = [(prefix, min(hops[prefix])) for prefix in hops
                     if len(hops[prefix]) == 1 and (prefix == () or len(hops[prefix[:-1]]) > 1)]
            self.assertEqual(blocks(width, rules), tuple(sorted(found)))


class LeastRulesTest(unittest.TestCase):
    def assert_rules(self, width, rules, found):
        self.assertIsInstance(found, tuple)
        self.assertEqual(found, tuple(sorted(found)))
        self.assertIn((), dict(found))
        self.assertEqual(len(dict(found)), len(found))
        self.assertIsNone(first_gap(width, rules, found))

    def least_number(self, width, rules):
        """How few rules are enough, by trying all of them."""
        wanted = [hop_by_definition(rules, address) for address in addresses(width)]
        hops = sorted(set(wanted))
        for many in range(len(wanted) + 1):
            for picked in itertools.combinations(prefixes(width)[1:], many):
                for told in itertools.product(hops, repeat=many + 1):
                    table = tuple(zip(((), *picked), told))
                    if [hop_by_definition(table, address) for address in addresses(width)] == wanted:
                        return many + 1
        raise AssertionError(rules)

    def test_few(self):
        found = least_rules(2, RULES)
        self.assertEqual(len(found), 3)
        self.assert_rules(2, RULES, found)
        self.assertEqual(least_rules(3, FLAT), FLAT)
        self.assertEqual(least_rules(2, (((), 7), ((0,), 3), ((1,), 3))), (((), 3),))
        self.assertEqual(least_rules(1, (((), 1), ((0,), 2))) in ((((), 1), ((0,), 2)), (((), 2), ((1,), 1))), True)

    def test_default_is_kept(self):
        # As few rules would do without the prefix ().
        for width in range(1, 6):
            found = least_rules(width, (((0,), 1), ((), 2)))
            self.assertEqual(len(found), 2)
            self.assertEqual(found[0][0], ())

    def test_rule_inside_another_one(self):
        rules = (((), 1), ((0, 0, 0), 2), ((0, 0, 1), 3), ((0, 1, 0), 2), ((0, 1, 1), 2))
        found = least_rules(3, rules)
        self.assertEqual(found, (((), 1), ((0,), 2), ((0, 0, 1), 3)))

    def test_by_definition(self):
        made = random.Random(48)
        for _ in range(60):
            width = made.randint(1, 3)
            rules = some_rules(made, width, 2)
            found = least_rules(width, rules)
            self.assert_rules(width, rules, found)
            self.assertEqual(len(found), self.least_number(width, rules))

    def test_wide(self):
        made = random.Random(49)
        for many in (0, 5, 30, 62):
            rules = some_rules(made, 5, 7, many)
            found = least_rules(5, rules)
            self.assert_rules(5, rules, found)
            self.assertLessEqual(len(found), len(rules))
            self.assertEqual(len(least_rules(5, found)), len(found))


class WalkTest(Raises, unittest.TestCase):
    def assert_bad_tables(self, width, tables, index):
        self.assert_error(BadRules, walk, width, tables, None, None, index=index)
        self.assert_error(BadRules, first_ring, width, tables, index=index)
        self.assert_error(BadRules, reach, width, tables, None, None, index=index)
        self.assert_error(BadRules, atoms, width, tables, index=index)

    def test_walks(self):
        self.assertEqual(walk(2, TABLES, 0, (0, 0)), (0,))
        self.assertEqual(walk(2, TABLES, 1, (0, 1)), (1, 0))
        self.assertEqual(walk(2, TABLES, 2, (0, 1)), (2, 1, 0))
        self.assertEqual(walk(2, TABLES, 0, (1, 1)), (0, 1, 2))
        self.assertEqual(walk(2, TABLES, 2, (1, 1)), (2,))
        self.assertEqual(walk(1, (FLAT,), 0, (1,)), (0,))

    def test_rings(self):
        self.assertEqual(walk(2, TABLES, 0, (1, 0)), (0, 1, 2, 1))
        self.assertEqual(walk(2, TABLES, 1, (1, 0)), (1, 2, 1))
        self.assertEqual(walk(2, TABLES, 2, (1, 0)), (2, 1, 2))

    def test_eight_nodes(self):
        ring = tuple((((), (node + 1) % 8),) for node in range(8))
        self.assertEqual(walk(5, ring, 3, (0,) * 5), (3, 4, 5, 6, 7, 0, 1, 2, 3))
        self.assertEqual(first_ring(5, ring), ((0,) * 5, 0))

    def test_by_definition(self):
        for width, tables in some_tables(100):
            for node, address in itertools.product(range(len(tables)), addresses(width)):
                self.assertEqual(walk(width, tables, node, address), walk_by_definition(tables, node, address)[0])

    def test_no_tables(self):
        for value in (*NO_TUPLES, list(TABLES), (), (FLAT,) * 9, (None,) * 9):
            self.assert_bad_tables(2, value, None)

    def test_wrong_table(self):
        wrong = [*NO_TUPLES, (), (((0,), 0),), (*FLAT, *FLAT), (*FLAT, ((2,), 0)), (*FLAT, ((0, 0, 0), 0)), FLAT * 64]
        wrong += [(((), 0), ((0,), value)) for value in (3, 7, 8, -1, *NO_INTEGERS)]
        for table in wrong:
            self.assert_bad_tables(2, (table, FLAT, None), 0)
            self.assert_bad_tables(2, (FLAT, (((), 2),), table), 2)
        # The hops are nodes: as many as there are tables.
        self.assert_bad_tables(2, ((((), 1),),), 0)
        self.assertEqual(walk(2, ((((), 1),), (((), 1),)), 0, (0, 0)), (0, 1))

    def test_errors_in_order(self):
        for value in (3, -1, 10 ** 30, *NO_INTEGERS):
            self.assert_error(BadNode, walk, 2, TABLES, value, None)
            self.assert_error(BadNode, reach, 2, TABLES, value, 0)
            self.assert_error(BadNode, reach, 2, TABLES, 0, value)


class FirstRingTest(unittest.TestCase):
    def test_rings(self):
        self.assertEqual(first_ring(2, TABLES), ((1, 0), 0))
        self.assertEqual(first_ring(1, ((((), 0),), (((), 2),), (((), 1),))), ((0,), 1))
        self.assertEqual(first_ring(1, ((((), 0),), (((), 2), ((0,), 1)), (((), 1),))), ((1,), 1))

    def test_none(self):
        self.assertIsNone(first_ring(3, (FLAT,)))
        self.assertIsNone(first_ring(2, (FLAT, FLAT, (((), 1),))))

    def test_by_definition(self):
        told = set()
        for width, tables in some_tables(120):
            rings = [(address, node) for address in addresses(width) for node in range(len(tables))
                     if not walk_by_definition(tables, node, address)[1]]
            self.assertEqual(first_ring(width, tables), min(rings, default=None))
            told.add(bool(rings))
        self.assertEqual(told, {True, False})


class ReachTest(unittest.TestCase):
    def test_reach(self):
        self.assertEqual(reach(2, TABLES, 2, 0), [(0, 0), (0, 1)])
        self.assertEqual(reach(2, TABLES, 0, 2), [(1, 1)])
        self.assertEqual(reach(2, TABLES, 2, 2), [(1, 1)])
        # Walks that come back to node 1 do not end at a node that keeps the address.
        self.assertEqual(reach(2, TABLES, 0, 1), [])
        self.assertEqual(reach(2, TABLES, 1, 1), [])

    def test_by_definition(self):
        for width, tables in some_tables(100):
            for node, goal in itertools.product(range(len(tables)), repeat=2):
                found = []
                for address in addresses(width):
                    passed, is_kept = walk_by_definition(tables, node, address)
                    if is_kept and passed[-1] == goal:
                        found.append(address)
                self.assertEqual(reach(width, tables, node, goal), found)


class AtomsTest(unittest.TestCase):
    def test_atoms(self):
        self.assertEqual(atoms(2, TABLES), [((0, 0), (0, 1)), ((1, 0),), ((1, 1),)])
        self.assertEqual(atoms(2, (FLAT,)), [tuple(addresses(2))])
        self.assertEqual(atoms(2, (FLAT, (((), 0), ((0, 1), 1), ((1, 0), 1)))), [((0, 0), (1, 1)), ((0, 1), (1, 0))])

    def test_by_definition(self):
        for width, tables in some_tables(100):
            def hops(address):
                return [hop_by_definition(table, address) for table in tables]
            found = {tuple(other for other in addresses(width) if hops(other) == hops(address))
                     for address in addresses(width)}
            self.assertEqual(atoms(width, tables), sorted(found))


if __name__ == "__main__":
    unittest.main()
