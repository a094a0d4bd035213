"""Points 59 to 63: stacks of labels."""

import itertools
import random
import unittest

from routeweb.errors import BadNode, BadRun, BadStack, BadStackRules
from routeweb.stacks import drain_run, drains, ring_run, run, visit_run
from tests.values import NO_INTEGERS, NO_TUPLES, Raises

# Label 0 at node 0 is put as 1 over 2 at node 1; 1 is taken off there, by two ways; 2 leads on to node 4 or 5.
RULES = (
    (0, 0, 1, (1, 2)),
    (1, 1, 2, ()),
    (1, 1, 3, ()),
    (2, 2, 4, ()),
    (3, 2, 5, (3,)),
    (5, 3, 5, ()),
)
# Label k is put as two labels k - 1, and label 0 is taken off: 2 ** (k + 1) - 1 rules take label k off.
DOUBLING = ((0, 0, 0, ()),) + tuple((0, label, 0, (label - 1, label - 1)) for label in range(1, 6))


def some_rules(many, nodes, labels):
    """Rules of few nodes and labels, some taking labels off, some putting more."""
    made = random.Random(many)
    for _ in range(many):
        rules = []
        for _ in range(made.randint(1, 7)):
            put = tuple(made.randrange(labels) for _ in range(made.choice((0, 0, 1, 2, 2))))
            rules.append((made.randrange(nodes), made.randrange(labels), made.randrange(nodes), put))
        stack = tuple(made.randrange(labels) for _ in range(made.choice((0, 1, 1, 2, 3))))
        yield tuple(rules), made.randrange(nodes), stack


def after(rules, packet):
    """The pairs of an index and the packet behind the rule."""
    node, stack = packet
    for index, (at, label, goal, put) in enumerate(rules):
        if stack and (at, label) == (node, stack[0]):
            yield index, (goal, put + stack[1:])


def packets_from(rules, packet, most):
    """The packets with at most so many labels that can come, each with how many rules lead to it at least."""
    found = {packet: 0}
    waiting = [packet]
    for last in waiting:
        for _, further in after(rules, last):
            if further not in found and len(further[1]) <= most:
                found[further] = found[last] + 1
                waiting.append(further)
    return found


def can_go_on(rules, packet, most):
    """Whether some run never ends: one comes back, or grows beyond so many labels, which tells the same."""
    on_way, done = set(), set()

    def is_endless(last):
        if last in on_way or len(last[1]) > most:
            return True
        if last in done:
            return False
        on_way.add(last)
        found = any(is_endless(further) for _, further in after(rules, last))
        on_way.discard(last)
        done.add(last)
        return found

    return is_endless(packet)


class RulesTest(Raises, unittest.TestCase):
    """What all functions tell of rules, a node and a stack."""

    def calls(self):
        yield run, (None,)
        yield drains, ()
        yield drain_run, (None,)
        yield visit_run, (None,)
        yield ring_run, ()

    def assert_bad(self, rules, index):
        for call, rest in self.calls():
            self.assert_error(BadStackRules, call, rules, None, None, *rest, index=index)

    def test_no_tuple(self):
        for value in (*NO_TUPLES, list(RULES), (RULES[0],) * 25, (None,) * 25):
            self.assert_bad(value, None)

    def test_most_rules(self):
        rules = (RULES[0],) * 24
        self.assertEqual(run(rules, 0, (0,), (23,)), (1, (1, 2)))
        self.assertEqual(drains(rules, 0, 0), ())
        self.assertEqual(drains((), 0, 0), ())

    def test_no_rule(self):
        wrong = [(), (0, 0, 0), (0, 0, 0, (), ()), [0, 0, 0, ()], "0000", 0, None, ((0, 0, 0, ()),)]
        wrong += [(8, 0, 0, ()), (-1, 0, 0, ()), (0, 6, 0, ()), (0, -1, 0, ()), (0, 0, 8, ()), (0, 0, -1, ())]
        puts = [(1, 2, 3), [1], (6,), (-1,), (1, 6), 1, *NO_TUPLES]
        for value in NO_INTEGERS:
            wrong += [(value, 0, 0, ()), (0, value, 0, ()), (0, 0, value, ())]
            puts += [(value,), (0, value)]
        wrong += [(0, 0, 0, put) for put in puts]
        for item in wrong:
            self.assert_bad((item, *RULES), 0)
            self.assert_bad((*RULES[:4], item, None), 4)

    def test_least_and_greatest_items(self):
        self.assertEqual(run(((7, 5, 7, (5, 5)),), 7, (5,), (0,)), (7, (5, 5)))
        self.assertEqual(run(((0, 0, 0, (0,)),), 0, (0,), (0,)), (0, (0,)))

    def test_no_node(self):
        for call, rest in self.calls():
            for value in (8, -1, 10 ** 30, *NO_INTEGERS):
                self.assert_error(BadNode, call, RULES, value, None, *rest)

    def test_no_stack(self):
        wrong = [*NO_TUPLES, (6,), (0, -1), (0,) * 13, (None,), [0], ((0,),)]
        for value in NO_INTEGERS:
            wrong += [(value,), (0, 0, value)]
        for call, rest in self.calls():
            if call is not drains:
                for value in wrong:
                    self.assert_error(BadStack, call, RULES, 0, value, *rest)

    def test_no_label(self):
        for value in (6, -1, 10 ** 30, *NO_INTEGERS):
            self.assert_error(BadStack, drains, RULES, 0, value)

    def test_no_end_and_no_goal(self):
        for call in (drain_run, visit_run):
            for value in (8, -1, 10 ** 30, *NO_INTEGERS):
                self.assert_error(BadNode, call, RULES, 0, (0,), value)
                self.assert_error(BadStack, call, RULES, 0, (0,) * 13, value)


class RunTest(Raises, unittest.TestCase):
    def test_run(self):
        self.assertEqual(run(RULES, 0, (0, 4), ()), (0, (0, 4)))
        self.assertEqual(run(RULES, 0, (0, 4), (0,)), (1, (1, 2, 4)))
        self.assertEqual(run(RULES, 0, (0, 4), (0, 1)), (2, (2, 4)))
        self.assertEqual(run(RULES, 0, (0, 4), (0, 2, 4)), (5, (3, 4)))
        self.assertEqual(run(RULES, 0, (0, 4), (0, 2, 4, 5)), (5, (4,)))
        self.assertEqual(run(RULES, 0, (0,), (0, 2, 4, 5)), (5, ()))
        self.assertEqual(run((), 3, (), ()), (3, ()))

    def test_more_labels_than_a_given_stack(self):
        grow = ((0, 0, 0, (0, 1)),)
        self.assertEqual(run(grow, 0, (0,) * 12, (0,) * 20), (0, (0,) + (1,) * 20 + (0,) * 11))

    def test_no_tuple(self):
        for value in (*NO_TUPLES, [0], [0, 1]):
            self.assert_error(BadRun, run, RULES, 0, (0,), value, index=None)

    def test_no_index(self):
        for value in (6, -1, -6, 10 ** 30, *NO_INTEGERS):
            self.assert_error(BadRun, run, RULES, 0, (0,), (value,), index=0)
            self.assert_error(BadRun, run, RULES, 0, (0,), (0, 1, value, None), index=2)
        self.assert_error(BadRun, run, (), 0, (0,), (0,), index=0)
        # Counted from behind, this would be a rule that applies.
        self.assert_error(BadRun, run, RULES[:1], 0, (0,), (-1,), index=0)

    def test_rule_that_does_not_apply(self):
        # Another label, another node, the label below, no label.
        self.assert_error(BadRun, run, RULES, 0, (1,), (0,), index=0)
        self.assert_error(BadRun, run, RULES, 1, (0,), (0,), index=0)
        self.assert_error(BadRun, run, RULES, 0, (1, 0), (0,), index=0)
        self.assert_error(BadRun, run, RULES, 0, (), (0,), index=0)
        self.assert_error(BadRun, run, RULES, 0, (0,), (0, 1, 4), index=2)
        self.assert_error(BadRun, run, RULES, 0, (0,), (0, 1, 3, 3, None), index=3)

    def test_no_index_ahead_of_one_that_does_not_apply(self):
        self.assert_error(BadRun, run, RULES, 0, (0,), (0, 0, None), index=1)
        self.assert_error(BadRun, run, RULES, 0, (0,), (0, None, 0), index=1)


class DrainsTest(unittest.TestCase):
    def test_drains(self):
        self.assertEqual(drains(RULES, 0, 0), (4, 5))
        self.assertEqual(drains(RULES, 1, 1), (2, 3))
        self.assertEqual(drains(RULES, 5, 3), (5,))
        self.assertEqual(drains(RULES, 5, 2), ())
        self.assertEqual(drains(RULES, 1, 2), ())

    def test_order_of_rules_does_not_matter(self):
        self.assertEqual(drains(RULES[::-1], 0, 0), (4, 5))

    def test_rings_do_not_drain(self):
        self.assertEqual(drains(((0, 0, 0, (0,)),), 0, 0), ())
        self.assertEqual(drains(((0, 0, 0, (0, 0)),), 0, 0), ())
        self.assertEqual(drains(((0, 0, 0, (0, 0)), (0, 0, 1, ())), 0, 0), (1,))
        self.assertEqual(drains(((0, 0, 0, (0, 0)), (0, 0, 1, ()), (1, 0, 2, ())), 0, 0), (1, 2))

    def test_all_nodes(self):
        around = tuple((node, 0, (node + 1) % 8, (0,)) for node in range(8))
        rules = around + tuple((node, 0, node, ()) for node in range(8))
        self.assertEqual(drains(rules, 3, 0), (0, 1, 2, 3, 4, 5, 6, 7))


class DrainRunTest(unittest.TestCase):
    def assert_drains(self, rules, node, stack, end):
        found = drain_run(rules, node, stack, end)
        self.assertIsInstance(found, tuple)
        self.assertEqual(run(rules, node, stack, found), (end, ()))
        return found

    def test_drain_run(self):
        self.assertEqual(drain_run(RULES, 0, (0,), 4), (0, 1, 3))
        self.assertEqual(drain_run(RULES, 0, (0,), 5), (0, 2, 4, 5))
        self.assertIsNone(drain_run(RULES, 0, (0,), 3))
        self.assertIsNone(drain_run(RULES, 0, (1,), 0))
        self.assertIsNone(drain_run(RULES, 0, (0, 0), 4))

    def test_several_labels(self):
        self.assertEqual(drain_run(RULES, 1, (1, 2), 4), (1, 3))
        self.assertEqual(drain_run(RULES, 0, (0, 3, 3), 5), (0, 2, 4, 5, 5, 5))
        self.assertIsNone(drain_run(RULES, 0, (0, 3), 4))

    def test_no_labels(self):
        self.assertEqual(drain_run(RULES, 6, (), 6), ())
        self.assertIsNone(drain_run(RULES, 6, (), 5))
        self.assertEqual(drain_run((), 6, (), 6), ())

    def test_many_labels(self):
        # At each of 12 labels there are many ways; only the last one decides.
        rules = tuple((node, 0, goal, ()) for node in range(4) for goal in range(5, -1, -1))
        for end in range(6):
            self.assertEqual(len(self.assert_drains(rules, 0, (0,) * 12, end)), 12)
        self.assertIsNone(drain_run(rules, 0, (0,) * 12, 6))

    def test_long_runs(self):
        self.assertEqual(len(self.assert_drains(DOUBLING, 0, (5,), 0)), 63)
        self.assertEqual(len(self.assert_drains(DOUBLING, 0, (5,) * 12, 0)), 12 * 63)
        # Each label is taken off at node 1 in the end, and comes to node 0 ahead of that.
        back = tuple((1, label, 0, (label,)) for label in range(1, 6))
        rules = ((0, 0, 1, ()), (1, 0, 1, ()), *DOUBLING[1:], *back)
        self.assert_drains(rules, 0, (5,), 1)

    def test_by_definition(self):
        found = lacking = 0
        for rules, node, stack in some_rules(400, 3, 3):
            packets = packets_from(rules, (node, stack), 8)
            for end in range(3):
                numbers = drain_run(rules, node, stack, end)
                if numbers is None:
                    self.assertNotIn((end, ()), packets)
                    lacking += 1
                else:
                    self.assertEqual(run(rules, node, stack, numbers), (end, ()))
                    self.assertLessEqual(len(numbers), packets.get((end, ()), len(numbers)))
                    found += 1
                if len(stack) == 1:
                    self.assertEqual(end in drains(rules, node, stack[0]), numbers is not None)
        self.assertGreater(min(found, lacking), 100)


class VisitRunTest(unittest.TestCase):
    def assert_visits(self, rules, node, stack, goal):
        found = visit_run(rules, node, stack, goal)
        self.assertIsInstance(found, tuple)
        self.assertEqual(run(rules, node, stack, found)[0], goal)
        return found

    def test_visit_run(self):
        self.assertEqual(visit_run(RULES, 0, (0,), 1), (0,))
        self.assertEqual(visit_run(RULES, 0, (0,), 3), (0, 2))
        self.assertEqual(visit_run(RULES, 0, (0,), 4), (0, 1, 3))
        self.assertEqual(visit_run(RULES, 0, (0,), 5), (0, 2, 4))
        self.assertIsNone(visit_run(RULES, 0, (0,), 6))
        self.assertIsNone(visit_run(RULES, 0, (4, 0), 1))

    def test_empty_runs(self):
        self.assertEqual(visit_run(RULES, 0, (0,), 0), ())
        self.assertEqual(visit_run(RULES, 6, (), 6), ())
        self.assertIsNone(visit_run(RULES, 6, (), 5))

    def test_with_labels_and_without(self):
        # In the middle of the stack that was given, at its end, and above what is put.
        self.assertEqual(visit_run(RULES, 1, (1, 2), 2), (1,))
        self.assertEqual(visit_run(RULES, 1, (1, 2), 4), (1, 3))
        self.assertEqual(visit_run(RULES, 1, (1,), 3), (2,))
        self.assertEqual(visit_run(((0, 0, 1, (1, 2)),), 0, (0, 5), 1), (0,))

    def test_behind_a_label_that_is_taken_off(self):
        rules = (*DOUBLING, (0, 4, 1, ()), (1, 4, 2, (0,)))
        self.assert_visits(rules, 0, (5,), 2)
        self.assertIsNone(visit_run(rules, 0, (3,), 2))

    def test_by_definition(self):
        found = lacking = 0
        for rules, node, stack in some_rules(400, 4, 3):
            packets = packets_from(rules, (node, stack), 8)
            for goal in range(4):
                lengths = [packets[packet] for packet in packets if packet[0] == goal]
                numbers = visit_run(rules, node, stack, goal)
                if numbers is None:
                    self.assertEqual(lengths, [])
                    lacking += 1
                else:
                    self.assertEqual(run(rules, node, stack, numbers)[0], goal)
                    self.assertLessEqual(len(numbers), min(lengths, default=len(numbers)))
                    found += 1
        self.assertGreater(min(found, lacking), 100)


class RingRunTest(unittest.TestCase):
    def assert_ring(self, rules, node, stack):
        first, again = ring_run(rules, node, stack)
        place, labels = run(rules, node, stack, first)
        self.assertGreater(len(again), 0)
        for many in range(1, len(again) + 1):
            # What is below the uppermost label stays: the label alone can do the same.
            _, above = run(rules, place, labels[:1], again[:many])
            self.assertEqual(run(rules, place, labels, again[:many])[1], above + labels[1:])
        self.assertEqual(run(rules, place, labels, again)[0], place)
        self.assertEqual(above[:1], labels[:1])
        # So again can be done over and over.
        self.assertEqual(run(rules, node, stack, first + again * 3)[0], place)
        return first, again

    def test_ring_run(self):
        rules = ((0, 0, 1, (1,)), (1, 1, 2, (2,)), (2, 2, 1, (1,)))
        self.assertEqual(self.assert_ring(rules, 0, (0, 5)), ((0,), (1, 2)))
        self.assertEqual(self.assert_ring(rules, 1, (1,)), ((), (1, 2)))
        self.assertEqual(self.assert_ring(((0, 0, 0, (0,)),), 0, (0,)), ((), (0,)))

    def test_more_labels_below(self):
        self.assertEqual(self.assert_ring(((0, 0, 0, (0, 1)),), 0, (0,)), ((), (0,)))
        self.assert_ring(((0, 0, 1, (1, 2)), (1, 1, 0, (0, 3))), 0, (0,))

    def test_behind_labels_that_are_taken_off(self):
        # Label 5 is taken off, then the one below it goes round; above what is put, too.
        self.assertEqual(self.assert_ring(((0, 5, 1, ()), (1, 0, 1, (0,))), 0, (5, 0)), ((0,), (1,)))
        rules = ((0, 0, 0, (1, 0)), (0, 1, 0, ()))
        self.assert_ring(rules, 0, (0,))
        rules = (*DOUBLING[:4], (0, 4, 0, (3, 5)), (0, 5, 1, (4,)), (1, 4, 0, (4,)))
        self.assert_ring(rules, 0, (4, 2))

    def test_no_ring(self):
        for rules in (RULES, DOUBLING, ()):
            for node, label in itertools.product(range(8), range(6)):
                self.assertIsNone(ring_run(rules, node, (label,)))
        self.assertIsNone(ring_run(((0, 0, 0, (0,)),), 0, ()))
        # There are rings, but the packet does not come to one.
        self.assertIsNone(ring_run(((0, 0, 0, (0,)), (1, 1, 1, ())), 1, (1, 0)))

    def test_equal_labels_that_are_taken_off_are_no_ring(self):
        self.assertIsNone(ring_run(((0, 0, 0, ()),), 0, (0,) * 12))
        self.assertIsNone(ring_run(((0, 0, 1, ()), (1, 0, 0, ())), 0, (0,) * 12))
        self.assertIsNone(ring_run(((0, 1, 0, (0, 0)), (0, 0, 0, ())), 0, (1, 1, 0)))

    def test_by_definition(self):
        found = lacking = 0
        for rules, node, stack in some_rules(1000, 3, 2):
            # With more labels than those given and one for each node and label, two stand at the same node.
            if can_go_on(rules, (node, stack), len(stack) + 7):
                self.assert_ring(rules, node, stack)
                found += 1
            else:
                self.assertIsNone(ring_run(rules, node, stack))
                lacking += 1
        self.assertGreater(min(found, lacking), 100)


if __name__ == "__main__":
    unittest.main()
