"""Points 20, 21 and 23 to 27: choices, stable states, wheels and numberings."""

import itertools
import random
import unittest

from routeweb.algebras import Algebra
from routeweb.choices import (
    Choices, choices_of, is_numbering, is_wheel, numbering, settled, stable_of, taken, wheel,
)
from routeweb.errors import BadChoices, BadNode, BadState, HasWheel, NotChoices, NotNetwork, TooMany
from routeweb.networks import Network, route_value, routes_of, stable_states
from tests.test_algebras import some_algebras
from tests.test_networks import FLAT, HOPS, LACKING, SHRINKING, TWO, full_network, some_networks
from tests.values import NO_INTEGERS, NO_OBJECTS, NO_TUPLES, Raises

NOTHING = Choices(())
SPANS = Choices((((1, 0),), ((2, 1, 0), (2, 0)), ((3, 2, 0), (3, 2, 1, 0)), ()))
QUARREL = Choices((((1, 2, 0), (1, 0)), ((2, 1, 0), (2, 0))))
RING = Choices((((1, 2, 0), (1, 0)), ((2, 3, 0), (2, 0)), ((3, 1, 0), (3, 0))))
# The rest (3, 2, 0) of the best path of node 1 is no path of node 3.
LONG = Choices((((1, 3, 2, 0), (1, 0)), ((2, 1, 0), (2, 0)), ()))


def some_choices(many, most=4):
    """Choices of up to so many nodes, with many short paths: so that there are wheels among them, too."""
    made = random.Random(many)
    for _ in range(many):
        nodes = range(1, made.randint(1, most) + 1)
        lists = []
        for node in nodes:
            others = [other for other in nodes if other != node]
            paths = [(node, *between, 0) for count in range(len(others) + 1)
                     for between in itertools.permutations(others, count)]
            paths = paths[:made.choice((len(others) + 1, len(paths)))]
            paths = made.sample(paths, made.randint(min(2, len(paths)), min(4, len(paths))))
            if made.random() < 0.5 and (node, 0) in paths:
                paths.sort(key=lambda path: path == (node, 0))
            lists.append(tuple(paths))
        yield Choices(tuple(lists))


def all_states(choices):
    return itertools.product(*[(*paths, None) for paths in choices.lists])


def taken_by_definition(choices, node, state):
    for path in choices.lists[node - 1]:
        if len(path) == 2 or path[1:] in state:
            return path
    return None


def pairs_of(choices):
    return [(node, path) for node, paths in enumerate(choices.lists, 1) for path in paths]


def goes_on(choices, pair, other, rim):
    """Whether a dispute goes on from a pair to another one by a rim: the words of point 24."""
    node, path = pair
    paths = choices.lists[node - 1]
    for better in paths[:paths.index(path) + 1]:
        if better == rim + other[1][1:] and rim[0] == node and rim[-1] == other[0] and len(rim) > 1:
            return other[0] not in (node, 0)
    return False


def rims_of(choices, pair, other):
    paths = choices.lists[pair[0] - 1]
    rims = [path[:cut] for path in paths for cut in range(1, len(path) + 1)]
    return [rim for rim in rims if goes_on(choices, pair, other, rim)]


def has_ring(choices):
    """Whether a dispute comes back to some pair, by all pairs that can be reached from each one."""
    pairs = pairs_of(choices)
    after = {pair: {other for other in pairs if rims_of(choices, pair, other)} for pair in pairs}
    for _ in pairs:
        after = {pair: after[pair].union(*[after[other] for other in after[pair]]) for pair in pairs}
    return any(pair in after[pair] for pair in pairs)


class ChoicesTest(Raises, unittest.TestCase):
    def test_lists(self):
        lists = (((1, 2, 0), (1, 0)), (), ((3, 1, 2, 0),))
        self.assertEqual(Choices(lists).lists, lists)
        self.assertEqual(NOTHING.lists, ())
        # No links are told: a path may be alone, and its rest no path of the next node.
        self.assertEqual(Choices(((), ((2, 1, 0),))).lists, ((), ((2, 1, 0),)))

    def test_equal(self):
        self.assertTrue(QUARREL == Choices((((1, 2, 0), (1, 0)), ((2, 1, 0), (2, 0)))))
        self.assertFalse(QUARREL != Choices((((1, 2, 0), (1, 0)), ((2, 1, 0), (2, 0)))))
        self.assertFalse(QUARREL == Choices((((1, 0), (1, 2, 0)), ((2, 1, 0), (2, 0)))))
        self.assertFalse(NOTHING == Choices(((),)))
        for other in NO_OBJECTS:
            self.assertFalse(QUARREL == other)
            self.assertFalse(NOTHING == other)

    def test_limits(self):
        paths = [(7, *between, 0) for between in itertools.permutations(range(1, 7), 2)]
        lists = ((),) * 6 + (tuple(paths[:10]),)
        self.assertEqual(Choices(lists).lists, lists)
        self.assert_error(BadChoices, Choices, ((),) * 6 + (tuple(paths[:11]),), node=7, index=None)
        self.assert_error(BadChoices, Choices, ((),) * 8, node=None, index=None)
        self.assertEqual(Choices(((tuple(range(1, 8)) + (0,),), *((),) * 6)).lists[0], ((1, 2, 3, 4, 5, 6, 7, 0),))

    def test_wrong_lists(self):
        for lists in NO_TUPLES:
            self.assert_error(BadChoices, Choices, lists, node=None, index=None)

    def test_wrong_paths(self):
        for paths in NO_TUPLES:
            self.assert_error(BadChoices, Choices, (((1, 0),), paths, None), node=2, index=None)
        self.assert_error(BadChoices, Choices, (((1, 0),), ((2, 0), (1, 0)), None), node=2, index=1)

    def test_wrong_path(self):
        wrong = [(), (0,), (2,), (2, 1), (1, 0), (2, 2, 0), (2, 1, 2, 0), (2, 4, 0), (2, -1, 0), (2, 0, 0), (0, 2, 0)]
        wrong += [(2, 0, 1, 0), [2, 0], "20", ((2, 0),), (2, 10 ** 30, 0), *NO_TUPLES]
        for value in NO_INTEGERS:
            wrong += [(2, value), (value, 0), (2, value, 0)]
        for path in wrong:
            self.assert_error(BadChoices, Choices, (((1, 0),), (path,), ()), node=2, index=0)
            self.assert_error(BadChoices, Choices, ((), ((2, 0), (2, 1, 0), path, None), 7), node=2, index=2)

    def test_repeated_path(self):
        self.assert_error(BadChoices, Choices, (((1, 0), (1, 2, 0), (1, 0), 5), 5), node=1, index=2)


class TakenTest(Raises, unittest.TestCase):
    def test_best_path(self):
        self.assertEqual(taken(SPANS, 1, (None, None, None, None)), (1, 0))
        self.assertEqual(taken(SPANS, 2, (None, None, None, None)), (2, 0))
        self.assertEqual(taken(SPANS, 2, ((1, 0), (2, 0), None, None)), (2, 1, 0))
        self.assertEqual(taken(SPANS, 3, (None, (2, 0), None, None)), (3, 2, 0))
        # The path of node 2 is one that it could not take.
        self.assertEqual(taken(SPANS, 3, (None, (2, 1, 0), None, None)), (3, 2, 1, 0))

    def test_none(self):
        self.assertIsNone(taken(SPANS, 3, ((1, 0), None, (3, 2, 0), None)))
        self.assertIsNone(taken(SPANS, 4, ((1, 0), None, None, None)))

    def test_whole_rest(self):
        choices = Choices((((1, 2, 3, 0), (1, 0)), ((2, 0), (2, 3, 0)), ((3, 0),)))
        self.assertEqual(taken(choices, 1, (None, (2, 0), (3, 0))), (1, 0))
        self.assertEqual(taken(choices, 1, (None, (2, 3, 0), None)), (1, 2, 3, 0))

    def test_by_definition(self):
        for choices in some_choices(60, 3):
            for state in all_states(choices):
                for node in range(1, len(choices.lists) + 1):
                    self.assertEqual(taken(choices, node, state), taken_by_definition(choices, node, state))

    def test_errors_in_order(self):
        for value in NO_OBJECTS:
            self.assert_error(NotChoices, taken, value, None, None)
        for node in (0, 3, -1, *NO_INTEGERS):
            self.assert_error(BadNode, taken, QUARREL, node, None)
        self.assert_error(BadNode, taken, NOTHING, 1, ())
        for state in (*NO_TUPLES, (), (None,), (None, None, None)):
            self.assert_error(BadState, taken, QUARREL, 1, state, index=None)
        for item in ((2, 0), (1,), (1, 2), (1, 0, 2), [1, 0], (True, 0), (1, False), ((1, 0),), 1, "10", False):
            self.assert_error(BadState, taken, QUARREL, 1, (item, None), index=0)
        for item in ((1, 0), (2, 1, False), (2, 1), 0, ()):
            self.assert_error(BadState, taken, QUARREL, 1, ((1, 0), item), index=1)
        # A path, but none that node 2 has.
        self.assert_error(BadState, taken, Choices((((1, 2, 0),), ((2, 1, 0),))), 1, ((1, 2, 0), (2, 0)), index=1)


class StableOfTest(Raises, unittest.TestCase):
    def test_example(self):
        self.assertEqual(stable_of(QUARREL), [((1, 2, 0), (2, 0)), ((1, 0), (2, 1, 0))])

    def test_few(self):
        self.assertEqual(stable_of(NOTHING), [()])
        self.assertEqual(stable_of(Choices(((), ()))), [(None, None)])
        self.assertEqual(stable_of(SPANS), [((1, 0), (2, 1, 0), (3, 2, 1, 0), None)])
        self.assertEqual(stable_of(RING), [])
        self.assertEqual(stable_of(LONG), [((1, 0), (2, 1, 0), None)])

    def test_none_is_last(self):
        # Node 1 has a path only where node 2 takes (2, 0).
        choices = Choices((((1, 2, 0),), ((2, 3, 0), (2, 0)), ((3, 2, 0), (3, 0))))
        states = [((1, 2, 0), (2, 0), (3, 2, 0)), (None, (2, 3, 0), (3, 0))]
        self.assertEqual(stable_of(choices), states)

    def test_a_path_that_leans_on_itself(self):
        self.assertEqual(stable_of(Choices((((1, 2, 0),), ((2, 1, 0),)))), [(None, None)])

    def test_order_by_places(self):
        choices = Choices((*QUARREL.lists, ((3, 4, 0), (3, 0)), ((4, 3, 0), (4, 0))))
        one = stable_of(QUARREL)
        other = [((3, 4, 0), (4, 0)), ((3, 0), (4, 3, 0))]
        self.assertEqual(stable_of(choices), [(*left, *right) for left in one for right in other])

    def test_by_definition(self):
        counts = set()
        for choices in some_choices(500):
            nodes = range(1, len(choices.lists) + 1)
            # product tries the paths by their places, None last.
            found = [state for state in all_states(choices)
                     if all(state[node - 1] == taken_by_definition(choices, node, state) for node in nodes)]
            self.assertEqual(stable_of(choices), found)
            counts.add(len(found))
        self.assertTrue({0, 1, 2} <= counts)

    def test_errors(self):
        for value in NO_OBJECTS:
            self.assert_error(NotChoices, stable_of, value)

    def test_new_list(self):
        stable_of(QUARREL).clear()
        self.assertEqual(len(stable_of(QUARREL)), 2)


class WheelTest(Raises, unittest.TestCase):
    TURN = ((1, (1, 0), (1, 2)), (2, (2, 0), (2, 1)))

    def test_wheels(self):
        for choices in (QUARREL, RING, LONG):
            found = wheel(choices)
            self.assertIsInstance(found, tuple)
            self.assertIs(is_wheel(choices, found), True)
        for choices in (NOTHING, SPANS, Choices(((),))):
            self.assertIsNone(wheel(choices))

    def test_is_wheel(self):
        self.assertIs(is_wheel(QUARREL, self.TURN), True)
        self.assertIs(is_wheel(QUARREL, self.TURN[::-1]), True)
        self.assertIs(is_wheel(QUARREL, self.TURN * 2), True)
        self.assertIs(is_wheel(LONG, ((1, (1, 0), (1, 3, 2)), (2, (2, 0), (2, 1)))), True)
        ring = ((1, (1, 0), (1, 2)), (2, (2, 0), (2, 3)), (3, (3, 0), (3, 1)))
        self.assertIs(is_wheel(RING, ring), True)
        self.assertIs(is_wheel(RING, ring[1:] + ring[:1]), True)
        self.assertIs(is_wheel(RING, ring[::-1]), False)
        self.assertIs(is_wheel(RING, ring[:2]), False)

    def test_the_path_itself_may_go_on(self):
        choices = Choices((((1, 2, 0),), ((2, 3, 0), (2, 0)), ((3, 1, 2, 0), (3, 0))))
        by_itself = ((1, (1, 2, 0), (1, 2)), (2, (2, 0), (2, 3)), (3, (3, 0), (3, 1)))
        self.assertIs(is_wheel(choices, by_itself), True)
        self.assertIs(is_wheel(choices, ((2, (2, 0), (2, 3)), (3, (3, 0), (3, 1, 2)))), True)
        self.assertIs(is_wheel(choices, ((2, (2, 0), (2, 3)), (3, (3, 0), (3, 1)))), False)

    def test_better_path_needed(self):
        # The way by node 1 is worse for node 2 than its own one.
        choices = Choices((((1, 2, 0), (1, 0)), ((2, 0), (2, 1, 0))))
        self.assertIs(is_wheel(choices, self.TURN), False)
        self.assertEqual(stable_of(choices), [((1, 2, 0), (2, 0))])

    def test_values_that_are_no_wheels(self):
        one, two = self.TURN
        wrong = [(), (one,), (two,), (one, one), [one, two], (list(one), two), (one, two, one), one, (one, two, ())]
        wrong += [((1, (1, 0)), two), ((*one, 0), two), ((2, *one[1:]), two), ((0, (0,), (0, 2)), two)]
        wrong += [((1, (1, 2, 0), (1, 2)), two), ((1, (1,), (1, 2)), two), ((1, None, (1, 2)), two)]
        for rim in ((1,), (2,), (), (1, 2, 0), (2, 1), (1, 0), (1, 3), None, [1, 2], "12", 12, (True, 2), (1, 2, 2)):
            wrong.append(((1, (1, 0), rim), two))
        for node in NO_INTEGERS:
            wrong.append(((node, (1, 0), (1, 2)), two))
            wrong.append(((1, (node, 0), (1, 2)), two))
            wrong.append(((1, (1, node), (1, 2)), two))
            wrong.append(((1, (1, 0), (node, 2)), two))
        wrong += [*NO_OBJECTS, QUARREL, (QUARREL, QUARREL), (NOTHING,), ((QUARREL, QUARREL, QUARREL),)]
        for value in wrong:
            self.assertIs(is_wheel(QUARREL, value), False, value)
            self.assertIs(is_wheel(NOTHING, value), False, value)

    def test_rim_that_comes_back(self):
        # A rim leads to another node: no wheel has one triple only.
        choices = Choices((((1, 0),),))
        for rim in ((1,), (1, 1), (1, 0, 1)):
            self.assertIs(is_wheel(choices, ((1, (1, 0), rim),)), False)

    def test_by_definition(self):
        wheels = 0
        for choices in some_choices(300):
            found = wheel(choices)
            self.assertEqual(found is not None, has_ring(choices))
            if found is not None:
                self.assertIs(is_wheel(choices, found), True)
                for one, other in zip(found, found[1:] + found[:1]):
                    self.assertTrue(goes_on(choices, one[:2], other[:2], one[2]))
                wheels += 1
        self.assertGreater(wheels, 30)

    def test_is_wheel_by_definition(self):
        made = random.Random(24)
        told = set()
        for choices in some_choices(150, 3):
            pairs = pairs_of(choices)
            for _ in range(40 if pairs else 0):
                value = []
                for node, path in [made.choice(pairs) for _ in range(made.choice((1, 2, 2, 3)))]:
                    whole = made.choice(choices.lists[node - 1])
                    value.append((node, path, whole[:made.randint(1, len(whole))]))
                value = tuple(value)
                turns = zip(value, value[1:] + value[:1])
                wanted = all(goes_on(choices, one[:2], other[:2], one[2]) for one, other in turns)
                self.assertIs(is_wheel(choices, value), wanted)
                told.add(wanted)
        self.assertEqual(told, {True, False})

    def test_errors(self):
        for value in NO_OBJECTS:
            self.assert_error(NotChoices, wheel, value)
            self.assert_error(NotChoices, is_wheel, value, self.TURN)


class NumberingTest(Raises, unittest.TestCase):
    ORDER = ((1, (1, 0)), (2, (2, 0)), (2, (2, 1, 0)), (3, (3, 2, 0)), (3, (3, 2, 1, 0)))

    def test_numberings(self):
        for choices in (NOTHING, SPANS, Choices(((),))):
            found = numbering(choices)
            self.assertIsInstance(found, tuple)
            self.assertEqual(sorted(found), sorted(pairs_of(choices)))
            self.assertIs(is_numbering(choices, found), True)
        for choices in (QUARREL, RING, LONG):
            self.assertIsNone(numbering(choices))

    def test_is_numbering(self):
        one, two, by_one, three, by_two = self.ORDER
        self.assertIs(is_numbering(SPANS, self.ORDER), True)
        self.assertIs(is_numbering(SPANS, (one, by_one, two, three, by_two)), True)
        self.assertIs(is_numbering(SPANS, (one, two, three, by_one, by_two)), True)
        # Both paths of node 2 are behind (1, 0): a better one counts as well.
        self.assertIs(is_numbering(SPANS, (two, one, by_one, three, by_two)), False)
        self.assertIs(is_numbering(SPANS, (one, three, two, by_one, by_two)), False)

    def test_behind_the_own_rest(self):
        choices = Choices((((1, 0),), ((2, 1, 0),)))
        self.assertIs(is_numbering(choices, ((1, (1, 0)), (2, (2, 1, 0)))), True)
        self.assertIs(is_numbering(choices, ((2, (2, 1, 0)), (1, (1, 0)))), False)

    def test_behind_the_rests_of_better_paths(self):
        choices = Choices((((1, 0),), ((2, 1, 0), (2, 0))))
        self.assertIs(is_numbering(choices, ((1, (1, 0)), (2, (2, 0)), (2, (2, 1, 0)))), True)
        self.assertIs(is_numbering(choices, ((2, (2, 0)), (1, (1, 0)), (2, (2, 1, 0)))), False)
        choices = Choices((((1, 0),), ((2, 0), (2, 1, 0))))
        self.assertIs(is_numbering(choices, ((2, (2, 0)), (1, (1, 0)), (2, (2, 1, 0)))), True)

    def test_values_that_are_none(self):
        order = self.ORDER
        wrong = [order[1:], order[:-1], (*order, order[0]), (*order[:-1], order[0]), list(order), (*order[:-1], None)]
        last = ((3, (3, 0)), (4, (4, 0)), (3,), (3, (3, 2, 1, 0), ()), (2, (3, 2, 0)))
        wrong += [(*order[:-1], item) for item in last]
        wrong += [((1, [1, 0]), *order[1:]), ([1, (1, 0)], *order[1:]), ((0, (0,)), *order[1:])]
        for value in NO_INTEGERS:
            wrong += [((value, (1, 0)), *order[1:]), ((1, (value, 0)), *order[1:]), ((1, (1, value)), *order[1:])]
            wrong += [(value, *order[1:]), ((1, value), *order[1:])]
        for value in [*wrong, *NO_OBJECTS, SPANS]:
            self.assertIs(is_numbering(SPANS, value), False, value)
        self.assertIs(is_numbering(NOTHING, ()), True)
        self.assertIs(is_numbering(NOTHING, ((1, (1, 0)),)), False)
        self.assertIs(is_numbering(NOTHING, []), False)

    def test_by_definition(self):
        told = set()
        for choices in some_choices(200, 3):
            pairs = pairs_of(choices)
            found = numbering(choices)
            self.assertEqual(found is None, wheel(choices) is not None)
            for order in itertools.islice(itertools.permutations(pairs), 60):
                wanted = not any(rims_of(choices, one, other)
                                 for at, one in enumerate(order) for other in order[at:])
                self.assertIs(is_numbering(choices, order), wanted)
                told.add(wanted)
            if found is not None:
                self.assertEqual(sorted(found), sorted(pairs))
                self.assertIs(is_numbering(choices, found), True)
        self.assertEqual(told, {True, False})

    def test_errors(self):
        for value in NO_OBJECTS:
            self.assert_error(NotChoices, numbering, value)
            self.assert_error(NotChoices, is_numbering, value, ())


class SettledTest(Raises, unittest.TestCase):
    def test_settled(self):
        self.assertEqual(settled(NOTHING), ())
        self.assertEqual(settled(SPANS), ((1, 0), (2, 1, 0), (3, 2, 1, 0), None))

    def test_wheels(self):
        for choices in (QUARREL, RING, LONG):
            self.assert_error(HasWheel, settled, choices)

    def test_just_one_without_a_wheel(self):
        made = random.Random(26)
        many = 0
        for choices in some_choices(300):
            if wheel(choices) is not None:
                self.assert_error(HasWheel, settled, choices)
                continue
            state = settled(choices)
            self.assertEqual(stable_of(choices), [state])
            # Whatever the nodes have at first, they come to it.
            others = [made.choice((*paths, None)) for paths in choices.lists]
            for _ in range(40):
                for node in made.sample(range(1, len(others) + 1), len(others)):
                    others[node - 1] = taken(choices, node, tuple(others))
            self.assertEqual(tuple(others), state)
            many += 1
        self.assertGreater(many, 100)

    def test_errors(self):
        for value in NO_OBJECTS:
            self.assert_error(NotChoices, settled, value)


class ChoicesOfTest(Raises, unittest.TestCase):
    def test_by_level(self):
        network = Network(HOPS, 1, 4, ((1, 0, 1), (2, 0, 0), (1, 2, 0), (3, 1, 0), (3, 2, 0), (2, 1, 0)))
        lists = (((1, 2, 0), (1, 0)), ((2, 0), (2, 1, 0)), ((3, 2, 0), (3, 1, 2, 0), (3, 1, 0)))
        self.assertTrue(choices_of(network) == Choices(lists))

    def test_greatest_first(self):
        lists = (((1, 3, 2, 0), (1, 3, 0), (1, 2, 3, 0), (1, 2, 0), (1, 0)),
                 ((2, 3, 1, 0), (2, 3, 0), (2, 1, 3, 0), (2, 1, 0), (2, 0)),
                 ((3, 2, 1, 0), (3, 2, 0), (3, 1, 2, 0), (3, 1, 0), (3, 0)))
        self.assertTrue(choices_of(full_network(FLAT, 3)) == Choices(lists))
        self.assertEqual(choices_of(full_network(SHRINKING, 3)).lists[0],
                         ((1, 3, 2, 0), (1, 2, 3, 0), (1, 3, 0), (1, 2, 0), (1, 0)))

    def test_denied_routes(self):
        self.assertTrue(choices_of(Network(HOPS, 1, 1, ())) == NOTHING)
        network = Network(HOPS, 1, 3, ((1, 0, 2), (2, 1, 0)))
        self.assertTrue(choices_of(network) == Choices((((1, 0),), ())))

    def test_same_stable_states(self):
        for network, ends, size in some_networks(160, some_algebras(160), 3):
            if ends == 1:
                choices = choices_of(network)
                self.assertEqual([sorted(paths) for paths in choices.lists],
                                 [routes_of(network, node) for node in range(1, size)])
                for paths in choices.lists:
                    levels = [network.algebra.levels[route_value(network, path)] for path in paths]
                    self.assertEqual(levels, sorted(levels))
                self.assertEqual(sorted(stable_of(choices), key=str), sorted(stable_states(network), key=str))

    def test_most_paths(self):
        lists = choices_of(full_network(FLAT, 4, [(1, 2), (2, 3), (3, 1)])).lists
        self.assertEqual([len(paths) for paths in lists], [10, 10, 10, 10])
        network = full_network(FLAT, 4, [(1, 2), (2, 3)])
        self.assertEqual([len(routes_of(network, node)) for node in (1, 2, 3, 4)], [10, 11, 13, 11])
        self.assert_error(BadChoices, choices_of, network, node=2, index=None)
        self.assert_error(BadChoices, choices_of, full_network(FLAT, 4), node=1, index=None)

    def test_denied_routes_are_none_of_ten(self):
        denying = Algebra((0,), ((None,),))
        lists = choices_of(full_network(denying, 5)).lists
        self.assertEqual(lists, (((1, 0),), ((2, 0),), ((3, 0),), ((4, 0),), ((5, 0),)))

    def test_too_many_is_ahead_of_more_than_ten(self):
        # The network of LACKING with nodes 1 and 7 in each other's place.
        places = {1: 7, 7: 1}
        lacking = [(places.get(tail, tail), places.get(head, head)) for tail, head in LACKING[1:]]
        network = full_network(FLAT, 7, lacking)
        self.assertEqual([len(routes_of(network, node)) > 10 for node in range(1, 7)], [True] * 6)
        self.assert_error(TooMany, choices_of, network, most=500)
        self.assert_error(TooMany, choices_of, full_network(Algebra((0,), ((None,),)), 7, lacking), most=500)

    def test_more_terminals(self):
        self.assert_error(BadChoices, choices_of, TWO, node=None, index=None)
        self.assert_error(BadChoices, choices_of, Network(HOPS, 3, 3, ()), node=None, index=None)

    def test_no_network(self):
        for value in NO_OBJECTS:
            self.assert_error(NotNetwork, choices_of, value)


if __name__ == "__main__":
    unittest.main()
