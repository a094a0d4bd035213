"""Points 39 to 44: updates of hops in rounds."""

import itertools
import random
import unittest

from routeweb.errors import BadNode, BadRounds, BadTree
from routeweb.updates import bypass_of_round, depth_rounds, guarded_rounds, least_rounds, ring_of_round
from tests.values import NO_INTEGERS, NO_TUPLES, Raises

# A line 0, 1, 2, 3 that is turned: 3 goes to 0 then, 2 to 3, 1 to 2.
LINE = (0, 1, 2)
TURNED = (2, 3, 0)
# Node 3 changes from 1 to 2; node 4 from 3 to 2. Each at any time.
WIDE = (0, 0, 1, 3)
WIDE_NEW = (0, 0, 2, 2)
SEVEN = (0, 1, 2, 3, 4, 5, 6)
SEVEN_TURNED = (2, 3, 4, 5, 6, 7, 0)


def is_tree(hops):
    for node in range(1, len(hops) + 1):
        for _ in hops:
            node = hops[node - 1] if node else 0
        if node:
            return False
    return True


def all_trees(many):
    return [hops for hops in itertools.product(range(many + 1), repeat=many) if is_tree(hops)]


def some_updates(count, many):
    made = random.Random(count)
    trees = all_trees(many)
    for _ in range(count):
        yield made.choice(trees), made.choice(trees)


def moments(old, new, done, now):
    """The hops of all nodes at each moment of a round."""
    for turned in itertools.product((False, True), repeat=len(now)):
        after = [*done, *[node for node, is_new in zip(now, turned) if is_new]]
        yield tuple(new[at] if at + 1 in after else old[at] for at in range(len(old)))


def makes_ring(old, new, done, now):
    return any(not is_tree(hops) for hops in moments(old, new, done, now))


def way_around(hops, start, guard):
    """Whether hops lead from start to node 0 without the guard."""
    passed = [start]
    while passed[-1] and len(passed) <= len(hops) + 1:
        passed.append(hops[passed[-1] - 1])
    return passed[-1] == 0 and guard not in passed


def makes_way(old, new, done, now, start, guard):
    return any(way_around(hops, start, guard) for hops in moments(old, new, done, now))


def all_rounds(nodes):
    """All ways to part nodes into rounds, one after another."""
    if not nodes:
        yield ()
    for many in range(1, len(nodes) + 1):
        for now in itertools.combinations(nodes, many):
            for rest in all_rounds([node for node in nodes if node not in now]):
                yield (now, *rest)


def fewest(old, new, is_bad):
    """The least number of rounds of which none is bad, None without any."""
    nodes = [node for node in range(1, len(old) + 1) if old[node - 1] != new[node - 1]]
    counts = []
    for rounds in all_rounds(nodes):
        done = [sorted(sum(rounds[:at], ())) for at in range(len(rounds))]
        if not any(is_bad(before, now) for before, now in zip(done, rounds)):
            counts.append(len(rounds))
    return min(counts, default=None)


class TreesTest(Raises, unittest.TestCase):
    """What all functions tell of old and new."""

    def calls(self):
        yield lambda old, new: ring_of_round(old, new, None, None)
        yield depth_rounds
        yield least_rounds
        yield lambda old, new: bypass_of_round(old, new, None, None, None, None)
        yield lambda old, new: guarded_rounds(old, new, None, None)

    def assert_bad(self, old, new, index):
        for call in self.calls():
            self.assert_error(BadTree, call, old, new, index=index)

    def test_no_tuples(self):
        for value in (*NO_TUPLES, [0, 1, 2]):
            self.assert_bad(value, None, None)
            self.assert_bad(LINE, value, None)

    def test_length(self):
        self.assert_bad((0,) * 8, (0,) * 8, None)
        self.assert_bad((None,) * 8, LINE, None)
        self.assert_bad(LINE, (0, 0), None)
        self.assert_bad(LINE, (0, 0, 0, 0), None)
        self.assert_bad(LINE, (None,) * 4, None)
        self.assert_bad((), (0,), None)
        self.assert_bad((0,), (), None)
        self.assertEqual(depth_rounds((0,) * 7, (0,) * 7), ())
        self.assertEqual(depth_rounds((), ()), ())

    def test_items(self):
        for value in (4, -1, 10 ** 30, *NO_INTEGERS):
            self.assert_bad((value, 1, 2), None, 0)
            self.assert_bad((0, 1, value), None, 2)
            self.assert_bad((0, value, value), None, 1)
            self.assert_bad(LINE, (0, 1, value), 2)
        for index in range(3):
            hops = [0, 0, 0]
            hops[index] = index + 1
            self.assert_bad(tuple(hops), None, index)
            self.assert_bad(LINE, tuple(hops), index)

    def test_nodes_that_are_not_led_to_node_0(self):
        self.assert_bad((2, 1, 0), None, 0)
        self.assert_bad((0, 3, 2), None, 1)
        self.assert_bad((0, 3, 4, 3), None, 1)
        self.assert_bad(LINE, (0, 3, 2), 1)
        # An item that is no node is told ahead of a node that is not led.
        self.assert_bad((2, 1, 4), None, 2)
        self.assert_bad((2, 1, 3), None, 2)
        # Node 1 is led into a ring of others.
        self.assert_bad((2, 3, 2), None, 0)
        self.assert_bad((0, 1, 2, 3, 4, 7, 6), None, 5)

    def test_old_ahead_of_new(self):
        self.assert_bad((2, 1, 0), None, 0)
        self.assert_bad((0, 0, 3), (0, 0, 3), 2)


class RingOfRoundTest(Raises, unittest.TestCase):
    def assert_ring(self, old, new, done, now, ring):
        self.assertIsInstance(ring, tuple)
        self.assertGreater(len(ring), 2)
        self.assertEqual(ring[0], ring[-1])
        self.assertEqual(len(set(ring)), len(ring) - 1)
        links = set(zip(ring, ring[1:]))
        at_once = [hops for hops in moments(old, new, done, now) if links <= set(enumerate(hops, 1))]
        self.assertTrue(at_once, ring)

    def test_rings(self):
        # Node 1 goes to 2 while 2 goes to 1 yet.
        self.assertIn(ring_of_round(LINE, TURNED, (), (1,)), ((1, 2, 1), (2, 1, 2)))
        self.assertIn(ring_of_round(LINE, TURNED, (), (2,)), ((2, 3, 2), (3, 2, 3)))
        self.assertIn(ring_of_round(LINE, TURNED, (3,), (1,)), ((1, 2, 1), (2, 1, 2)))
        self.assert_ring(LINE, TURNED, (), (1, 2, 3), ring_of_round(LINE, TURNED, (), (1, 2, 3)))
        self.assert_ring(LINE, TURNED, (1,), (), ring_of_round(LINE, TURNED, (1,), ()))

    def test_none(self):
        self.assertIsNone(ring_of_round(LINE, TURNED, (), ()))
        self.assertIsNone(ring_of_round(LINE, TURNED, (), (3,)))
        self.assertIsNone(ring_of_round(LINE, TURNED, (3,), (2,)))
        self.assertIsNone(ring_of_round(LINE, TURNED, (2, 3), (1,)))
        self.assertIsNone(ring_of_round(LINE, TURNED, (1, 2, 3), ()))
        self.assertIsNone(ring_of_round(WIDE, WIDE_NEW, (), (3, 4)))
        self.assertIsNone(ring_of_round((), (), (), ()))

    def test_ring_of_old_and_new_hops_of_a_round(self):
        # Only while one of the two is done and the other one is not.
        old, new = (0, 1), (2, 0)
        self.assertIsNone(ring_of_round(old, new, (), (2,)))
        self.assertIsNone(ring_of_round(old, new, (1, 2), ()))
        self.assertIn(ring_of_round(old, new, (), (1, 2)), ((1, 2, 1), (2, 1, 2)))

    def test_nodes_without_a_change(self):
        self.assertIsNone(ring_of_round(LINE, LINE, (1,), (2, 3)))

    def test_by_definition(self):
        told = {True: 0, False: 0}
        made = random.Random(40)
        for old, new in some_updates(150, 4):
            parts = [made.choice((0, 1, 2)) for _ in old]
            done = tuple(node for node, part in enumerate(parts, 1) if part == 0)
            now = tuple(node for node, part in enumerate(parts, 1) if part == 1)
            ring = ring_of_round(old, new, done, now)
            self.assertEqual(ring is not None, makes_ring(old, new, done, now))
            if ring is not None:
                self.assert_ring(old, new, done, now, ring)
            told[ring is not None] += 1
        self.assertGreater(min(told.values()), 20, told)


class RoundsTest(Raises, unittest.TestCase):
    """What is told of done and now."""

    def assert_bad(self, done, now, index):
        self.assert_error(BadRounds, ring_of_round, LINE, TURNED, done, now, index=index)
        self.assert_error(BadRounds, bypass_of_round, LINE, TURNED, done, now, None, None, index=index)

    def test_no_tuples(self):
        for value in (*NO_TUPLES, [1, 2]):
            self.assert_bad(value, None, 0)
            self.assert_bad((), value, 1)

    def test_items(self):
        for value in (0, 4, -1, 10 ** 30, *NO_INTEGERS):
            self.assert_bad((value,), None, 0)
            self.assert_bad((1, value), (2,), 0)
            self.assert_bad((), (value,), 1)
            self.assert_bad((1,), (2, value), 1)

    def test_ascending(self):
        for nodes in ((2, 1), (1, 3, 2), (1, 1), (2, 3, 3)):
            self.assert_bad(nodes, (), 0)
            self.assert_bad((), nodes, 1)

    def test_no_node_in_both(self):
        self.assert_bad((1, 2), (2, 3), 1)
        self.assert_bad((3,), (3,), 1)
        self.assert_bad((1, 2, 3), (1,), 1)

    def test_trees_are_told_first(self):
        self.assert_error(BadTree, ring_of_round, LINE, (0, 3, 2), None, None, index=1)
        self.assert_error(BadTree, bypass_of_round, LINE, (0, 3, 2), None, None, None, None, index=1)


class DepthRoundsTest(unittest.TestCase):
    def test_few_steps_first(self):
        self.assertEqual(depth_rounds(LINE, TURNED), ((3,), (2,), (1,)))
        self.assertEqual(depth_rounds(TURNED, LINE), ((1,), (2,), (3,)))
        self.assertEqual(depth_rounds(SEVEN, SEVEN_TURNED), ((7,), (6,), (5,), (4,), (3,), (2,), (1,)))

    def test_ascending_in_a_round(self):
        self.assertEqual(depth_rounds((2, 0, 2, 2), (0, 0, 0, 0)), ((1, 3, 4),))
        self.assertEqual(depth_rounds((0, 0, 0, 0), (4, 4, 4, 0)), ((1, 2, 3),))

    def test_no_empty_rounds(self):
        # Nodes 1 and 2 stay as they are.
        self.assertEqual(depth_rounds((0, 1, 1, 1), (0, 1, 2, 3)), ((3,), (4,)))
        self.assertEqual(depth_rounds((0, 1, 2, 1), (0, 1, 2, 3)), ((4,),))
        self.assertEqual(depth_rounds(LINE, LINE), ())

    def test_no_rings(self):
        for old, new in some_updates(100, 4):
            rounds = depth_rounds(old, new)
            self.assertIsInstance(rounds, tuple)
            nodes = [node for node in range(1, 5) if old[node - 1] != new[node - 1]]
            self.assertEqual(sorted(sum(rounds, ())), nodes)
            for at, now in enumerate(rounds):
                self.assertIsNone(ring_of_round(old, new, tuple(sorted(sum(rounds[:at], ()))), now))


class LeastRoundsTest(unittest.TestCase):
    def assert_rounds(self, old, new, rounds):
        self.assertIsInstance(rounds, tuple)
        nodes = [node for node in range(1, len(old) + 1) if old[node - 1] != new[node - 1]]
        self.assertEqual(sorted(sum(rounds, ())), nodes)
        for at, now in enumerate(rounds):
            self.assertIsInstance(now, tuple)
            self.assertTrue(now)
            self.assertEqual(list(now), sorted(now))
            self.assertFalse(makes_ring(old, new, sum(rounds[:at], ()), now))

    def test_rounds(self):
        self.assertEqual(least_rounds(LINE, TURNED), ((3,), (2,), (1,)))
        self.assertEqual(least_rounds(WIDE, WIDE_NEW), ((3, 4),))
        self.assertEqual(least_rounds(LINE, LINE), ())
        self.assertEqual(least_rounds((), ()), ())

    def test_fewer_than_by_depth(self):
        # None of the new hops leads to a node that may be led back.
        self.assertEqual(least_rounds((0, 1, 2, 3), (0, 1, 1, 2)), ((3, 4),))
        self.assertEqual(depth_rounds((0, 1, 2, 3), (0, 1, 1, 2)), ((3,), (4,)))
        self.assertEqual(len(least_rounds((0, 0, 0, 0), (0, 1, 2, 3))), 1)
        self.assertEqual(len(depth_rounds((0, 0, 0, 0), (0, 1, 2, 3))), 3)

    def test_most_nodes(self):
        rounds = least_rounds(SEVEN, SEVEN_TURNED)
        self.assert_rounds(SEVEN, SEVEN_TURNED, rounds)
        self.assertEqual(len(rounds), 7)

    def test_by_definition(self):
        told = set()
        for old, new in some_updates(60, 4):
            rounds = least_rounds(old, new)
            self.assert_rounds(old, new, rounds)
            self.assertEqual(len(rounds), fewest(old, new, lambda done, now: makes_ring(old, new, done, now)))
            told.add(len(rounds))
        self.assertTrue({1, 2, 3} <= told, told)


class BypassTest(Raises, unittest.TestCase):
    def test_ways(self):
        # Node 3 goes by 2 and 1, later to 0.
        self.assertIsNone(bypass_of_round(LINE, TURNED, (), (), 3, 1))
        self.assertEqual(bypass_of_round(LINE, TURNED, (), (3,), 3, 1), (3, 0))
        self.assertEqual(bypass_of_round(LINE, TURNED, (3,), (2,), 2, 1), (2, 3, 0))
        self.assertEqual(bypass_of_round(LINE, TURNED, (3,), (2,), 2, 3), (2, 1, 0))
        self.assertIsNone(bypass_of_round(LINE, TURNED, (3,), (), 2, 1))
        self.assertIsNone(bypass_of_round(LINE, TURNED, (2, 3), (), 2, 3))

    def test_start_is_guard(self):
        self.assertIsNone(bypass_of_round(LINE, TURNED, (), (3,), 3, 3))
        self.assertIsNone(bypass_of_round((0,), (0,), (), (), 1, 1))

    def test_by_definition(self):
        told = {True: 0, False: 0}
        made = random.Random(43)
        for old, new in some_updates(200, 4):
            parts = [made.choice((0, 1, 2)) for _ in old]
            done = tuple(node for node, part in enumerate(parts, 1) if part == 0)
            now = tuple(node for node, part in enumerate(parts, 1) if part == 1)
            for start, guard in itertools.product(range(1, 5), repeat=2):
                way = bypass_of_round(old, new, done, now, start, guard)
                self.assertEqual(way is not None, makes_way(old, new, done, now, start, guard))
                if way is not None:
                    self.assertIsInstance(way, tuple)
                    self.assertEqual((way[0], way[-1], len(set(way))), (start, 0, len(way)))
                    self.assertNotIn(guard, way)
                    links = set(zip(way, way[1:]))
                    self.assertTrue([hops for hops in moments(old, new, done, now) if links <= set(enumerate(hops, 1))])
                told[way is not None] += 1
        self.assertGreater(min(told.values()), 100, told)

    def test_no_nodes(self):
        for value in (0, 4, -1, 10 ** 30, *NO_INTEGERS):
            self.assert_error(BadNode, bypass_of_round, LINE, TURNED, (), (), value, 1)
            self.assert_error(BadNode, bypass_of_round, LINE, TURNED, (), (), 1, value)
            self.assert_error(BadNode, bypass_of_round, LINE, TURNED, (), (), value, value)
            self.assert_error(BadNode, guarded_rounds, LINE, TURNED, value, 1)
            self.assert_error(BadNode, guarded_rounds, LINE, TURNED, 1, value)
        self.assert_error(BadNode, bypass_of_round, (), (), (), (), 1, 1)
        self.assert_error(BadNode, guarded_rounds, (), (), 0, 0)


class GuardedRoundsTest(unittest.TestCase):
    # All ways from 3 go by the guard 1, now and in the end; node 3 must not be the first one to go on.
    OLD = (0, 0, 1)
    NEW = (0, 1, 2)

    def test_rounds(self):
        self.assertEqual(least_rounds(self.OLD, self.NEW), ((2, 3),))
        self.assertEqual(guarded_rounds(self.OLD, self.NEW, 3, 1), ((2,), (3,)))

    def test_none(self):
        # The old or the new hops lead around the guard.
        self.assertIsNone(guarded_rounds(LINE, TURNED, 3, 1))
        self.assertIsNone(guarded_rounds(TURNED, LINE, 3, 1))
        self.assertIsNone(guarded_rounds(self.OLD, self.NEW, 3, 2))
        # Whoever changes first makes a ring (1 and 2) or a way around node 2 (3 and 4).
        self.assertIsNone(guarded_rounds((0, 1, 2, 3), (2, 3, 0, 1), 4, 2))
        self.assertEqual(len(least_rounds((0, 1, 2, 3), (2, 3, 0, 1))), 3)

    def test_no_rounds(self):
        # Ahead of the first round counts, also if no hops differ.
        self.assertEqual(guarded_rounds(LINE, LINE, 3, 1), ())
        self.assertEqual(guarded_rounds(LINE, LINE, 3, 2), ())
        self.assertIsNone(guarded_rounds(LINE, LINE, 1, 3))
        self.assertIsNone(guarded_rounds((0, 0), (0, 0), 1, 2))

    def test_start_is_guard(self):
        for old, new in some_updates(30, 4):
            for node in range(1, 5):
                self.assertEqual(len(guarded_rounds(old, new, node, node)), len(least_rounds(old, new)))
        self.assertEqual(guarded_rounds(LINE, TURNED, 3, 3), ((3,), (2,), (1,)))

    def test_by_definition(self):
        told = {}
        for old, new in some_updates(300, 4):
            for start, guard in itertools.product(range(1, 5), repeat=2):
                if way_around(old, start, guard) or way_around(new, start, guard):
                    self.assertIsNone(guarded_rounds(old, new, start, guard))
                    continue
                if start == guard:
                    continue

                def is_bad(done, now):
                    return makes_ring(old, new, done, now) or makes_way(old, new, done, now, start, guard)
                wanted = fewest(old, new, is_bad)
                rounds = guarded_rounds(old, new, start, guard)
                self.assertEqual(None if rounds is None else len(rounds), wanted)
                if rounds is not None:
                    nodes = [node for node in range(1, 5) if old[node - 1] != new[node - 1]]
                    self.assertEqual(sorted(sum(rounds, ())), nodes)
                    for at, now in enumerate(rounds):
                        self.assertEqual(list(now), sorted(now))
                        self.assertFalse(is_bad(sum(rounds[:at], ()), now))
                is_longer = wanted is not None and wanted > len(least_rounds(old, new))
                told[wanted is None, is_longer] = True
        self.assertEqual(sorted(told), [(False, False), (False, True), (True, False)])


if __name__ == "__main__":
    unittest.main()
