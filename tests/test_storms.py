"""Points 28 to 30: states that can be reached, and storms."""

import itertools
import random
import unittest

from routeweb.choices import Choices, stable_of, taken
from routeweb.choicetexts import read_choices
from routeweb.errors import BadState, NotChoices, TooMany
from routeweb.storms import is_storm, states_from, storm
from tests.test_choices import LONG, NOTHING, QUARREL, RING, SPANS, all_states, some_choices
from tests.values import NO_INTEGERS, NO_OBJECTS, NO_TUPLES, Raises

# Four nodes around node 0, of which each would rather go by the next one: they may quarrel for ever, or settle.
FOUR = Choices((((1, 2, 0), (1, 0)), ((2, 3, 0), (2, 0)), ((3, 4, 0), (3, 0)), ((4, 1, 0), (4, 0))))
# Node 4 can take its path only in stable states.
APART = Choices((*RING.lists, ((4, 0),)))


# From (None,) * 6 just 2000 and 2001 states can be reached.
MOST = """1: 120 150 160 10
2: 250 260 230 20
3: 310 360 320 30
4: 420 410 460 40
5: 530 540 50
6: 610 650 640 60"""
MORE = """1: 140 120 10
2: 230 260 250 20
3: 340 350 30
4: 420 460 40
5: 510 520 540 50
6: 610 650 630 60"""


def wavering_choices(many, most):
    """Choices in which nodes would rather go by a neighbor, which itself goes to node 0."""
    made = random.Random(many)
    for _ in range(many):
        nodes = range(1, made.randint(3, most) + 1)
        lists = []
        for node in nodes:
            others = made.sample([other for other in nodes if other != node], made.randint(1, 2))
            lists.append((*[(node, other, 0) for other in others], (node, 0)))
        yield Choices(tuple(lists))


def behind(choices, state, node):
    after = list(state)
    after[node - 1] = taken(choices, node, state)
    return tuple(after)


def reached(choices, state):
    """All states that can be reached, each with the states behind it."""
    after = {}
    waiting = [state]
    while waiting:
        last = waiting.pop()
        if last not in after:
            after[last] = [behind(choices, last, node) for node in range(1, len(state) + 1)]
            waiting.extend(after[last])
    return after


def has_storm(choices, state):
    """Whether from some state all nodes can act, change something and come back: by trying all that can be done."""
    after = reached(choices, state)
    everyone = frozenset(range(1, len(state) + 1))
    for begin in after:
        seen = set()
        waiting = [(begin, frozenset(), False)]
        while waiting:
            turn = waiting.pop()
            if turn in seen:
                continue
            seen.add(turn)
            last, acted, changed = turn
            for node, new in enumerate(after[last], 1):
                waiting.append((new, acted | {node}, changed or new != last))
        if (begin, everyone, True) in seen:
            return True
    return False


def storm_by_definition(choices, state, value):
    first, again = value
    for node in first:
        state = behind(choices, state, node)
    states = [state]
    for node in again:
        states.append(behind(choices, states[-1], node))
    everyone = set(range(1, len(state) + 1))
    return everyone <= set(again) and states[-1] == state and len(set(states)) > 1


def ordered(states):
    return sorted(states, key=lambda state: [(path is None, path or ()) for path in state])


class StatesFromTest(Raises, unittest.TestCase):
    def test_few(self):
        self.assertEqual(states_from(NOTHING, ()), (1, [()]))
        self.assertEqual(states_from(Choices(((), ())), (None, None)), (1, [(None, None)]))
        self.assertEqual(states_from(Choices((((1, 0),),)), (None,)), (2, [((1, 0),)]))
        self.assertEqual(states_from(Choices((((1, 0),),)), ((1, 0),)), (1, [((1, 0),)]))

    def test_one_by_one(self):
        # Both at once would come to ((1, 0), (2, 0)), one by one they do not.
        stable = [((1, 0), (2, 1, 0)), ((1, 2, 0), (2, 0))]
        self.assertEqual(states_from(QUARREL, (None, None)), (5, stable))
        self.assertEqual(states_from(QUARREL, ((1, 0), (2, 0))), (3, stable))
        self.assertEqual(states_from(QUARREL, ((1, 0), None)), (2, stable[:1]))
        self.assertEqual(states_from(QUARREL, stable[0]), (1, stable[:1]))

    def test_only_those_that_can_be_reached(self):
        many, stable = states_from(RING, (None, None, None))
        self.assertEqual((many, stable), (16, []))
        self.assertEqual(states_from(RING, ((1, 0), (2, 3, 0), (3, 0)))[0], 6)

    def test_paths_ascending_and_none_last(self):
        # By the places of the paths the order is another one, and None would be last as well.
        choices = Choices((((1, 2, 0), (1, 0)), ((2, 1, 0), (2, 0)), ((3, 2, 0),)))
        stable = [((1, 0), (2, 1, 0), None), ((1, 2, 0), (2, 0), (3, 2, 0))]
        self.assertEqual(states_from(choices, (None, None, None))[1], stable)
        self.assertEqual(stable_of(choices), stable[::-1])
        choices = Choices((((1, 2, 0),), ((2, 3, 0), (2, 0)), ((3, 2, 0), (3, 0))))
        stable = [((1, 2, 0), (2, 0), (3, 2, 0)), (None, (2, 3, 0), (3, 0))]
        self.assertEqual(states_from(choices, (None, None, None))[1], stable)

    def test_by_definition(self):
        for choices in some_choices(60):
            made = random.Random(len(choices.lists))
            states = list(all_states(choices))
            for state in made.sample(states, min(8, len(states))):
                after = reached(choices, state)
                stable = [last for last in after if set(after[last]) <= {last}]
                self.assertEqual(states_from(choices, state), (len(after), ordered(stable)))

    def test_errors_in_order(self):
        for value in NO_OBJECTS:
            self.assert_error(NotChoices, states_from, value, None)
        for state in (*NO_TUPLES, (), (None,), (None, None, None)):
            self.assert_error(BadState, states_from, QUARREL, state, index=None)
        self.assert_error(BadState, states_from, QUARREL, ((2, 0), None), index=0)
        self.assert_error(BadState, states_from, QUARREL, ((1, 0), (2, True)), index=1)

    def test_too_many(self):
        state = (None,) * 6
        self.assertEqual(len(reached(read_choices(MOST), state)), 2000)
        self.assertEqual(states_from(read_choices(MOST), state)[0], 2000)
        found = storm(read_choices(MOST), state)
        self.assertIs(is_storm(read_choices(MOST), state, found), True)
        self.assertEqual(len(reached(read_choices(MORE), state)), 2001)
        for call in (states_from, storm):
            self.assert_error(TooMany, call, read_choices(MORE), state, most=2000)
            self.assert_error(BadState, call, read_choices(MORE), state[1:], index=None)
            # What counts is what can be reached, not how many states there are.
            self.assert_error(TooMany, call, Choices((*read_choices(MORE).lists, ((7, 0),))), (None,) * 7, most=2000)
        self.assertEqual(states_from(Choices((*read_choices(MOST).lists, ())), (None,) * 7)[0], 2000)

    def test_nodes_apart(self):
        lists = [((node, 0),) for node in range(1, 8)]
        self.assertEqual(states_from(Choices(tuple(lists)), (None,) * 7), (128, [tuple(paths[0] for paths in lists)]))
        self.assertEqual(states_from(APART, (None,) * 4), (32, []))


class StormTest(Raises, unittest.TestCase):
    def test_storms(self):
        for choices in (RING, APART, FOUR):
            state = (None,) * len(choices.lists)
            found = storm(choices, state)
            self.assertIsInstance(found, tuple)
            self.assertEqual([type(part) for part in found], [tuple, tuple])
            self.assertIs(is_storm(choices, state, found), True)
            self.assertTrue(storm_by_definition(choices, state, found))

    def test_none(self):
        self.assertIsNone(storm(NOTHING, ()))
        self.assertIsNone(storm(Choices(((),)), (None,)))
        self.assertIsNone(storm(SPANS, (None,) * 4))
        # There is a wheel, but one by one the nodes settle.
        for state in all_states(QUARREL):
            self.assertIsNone(storm(QUARREL, state))
        self.assertIsNone(storm(LONG, (None,) * 3))

    def test_from_a_stable_state(self):
        stable = stable_of(FOUR)
        self.assertEqual(len(stable), 2)
        for state in stable:
            self.assertIsNone(storm(FOUR, state))

    def test_each_node_occurs(self):
        # Without node 1 the others would go around for ever, but as soon as it takes they settle.
        lists = (((1, 0),), ((2, 1, 0), (2, 3, 0), (2, 0)), ((3, 1, 0), (3, 4, 0), (3, 0)),
                 ((4, 1, 0), (4, 2, 0), (4, 0)))
        choices = Choices(lists)
        self.assertEqual(len(states_from(choices, (None,) * 4)[1]), 1)
        self.assertIsNone(storm(choices, (None,) * 4))
        self.assertIsNotNone(storm(Choices(((), *lists[1:])), (None,) * 4))

    def test_by_definition(self):
        told = {True: 0, False: 0}
        for choices in itertools.chain(some_choices(120), wavering_choices(80, 4), (RING, APART, FOUR)):
            state = (None,) * len(choices.lists)
            found = storm(choices, state)
            self.assertEqual(found is not None, has_storm(choices, state))
            if found is not None:
                self.assertIs(is_storm(choices, state, found), True)
                self.assertTrue(storm_by_definition(choices, state, found))
            told[found is not None] += 1
        self.assertGreater(min(told.values()), 10, told)

    def test_from_any_state(self):
        for choices in (RING, APART, FOUR):
            for state in all_states(choices):
                found = storm(choices, state)
                self.assertEqual(found is not None, has_storm(choices, state))
                if found is not None:
                    self.assertIs(is_storm(choices, state, found), True)

    def test_errors_in_order(self):
        for value in NO_OBJECTS:
            self.assert_error(NotChoices, storm, value, None)
        for state in (*NO_TUPLES, (), (None,)):
            self.assert_error(BadState, storm, QUARREL, state, index=None)
        self.assert_error(BadState, storm, QUARREL, ((1, 0), (1, 0)), index=1)


class IsStormTest(Raises, unittest.TestCase):
    # Behind first the nodes have 10, 20 and 310, so that they go around and come back to it.
    FIRST = (1, 2, 3)
    AGAIN = (1, 2, 3, 2, 1, 3, 2)
    NONE = (None, None, None)

    def test_storms(self):
        self.assertIs(is_storm(RING, self.NONE, (self.FIRST, self.AGAIN)), True)
        self.assertIs(is_storm(RING, self.NONE, (self.FIRST, self.AGAIN * 2)), True)
        self.assertIs(is_storm(RING, self.NONE, (self.FIRST + self.AGAIN, self.AGAIN)), True)
        # The state in which the second part begins is another one for another first part.
        self.assertIs(is_storm(RING, self.NONE, ((), self.AGAIN)), False)

    def test_from_another_state(self):
        begin = ((1, 0), (2, 0), (3, 1, 0))
        self.assertIs(is_storm(RING, begin, ((), self.AGAIN)), True)
        self.assertIs(is_storm(RING, begin, (self.AGAIN, self.AGAIN)), True)
        self.assertIs(is_storm(RING, ((1, 2, 0), (2, 0), (3, 0)), ((), self.AGAIN)), False)

    def test_something_changes(self):
        stable = stable_of(QUARREL)[0]
        self.assertIs(is_storm(QUARREL, stable, ((), (1, 2))), False)
        self.assertIs(is_storm(NOTHING, (), ((), ())), False)
        self.assertIs(is_storm(QUARREL, (None, None), ((1, 2), (1, 2))), False)

    def test_each_node_occurs(self):
        state = (*self.NONE, None)
        self.assertIs(is_storm(APART, state, (self.FIRST, self.AGAIN)), False)
        self.assertIs(is_storm(APART, state, (self.FIRST, (*self.AGAIN, 4))), False)
        self.assertIs(is_storm(APART, state, ((*self.FIRST, 4), (*self.AGAIN, 4))), True)
        self.assertIs(is_storm(APART, state, ((*self.FIRST, 4), self.AGAIN)), False)

    def test_ends_where_it_began(self):
        for cut in range(len(self.AGAIN)):
            value = (self.FIRST, self.AGAIN[:cut])
            self.assertIs(is_storm(RING, self.NONE, value), storm_by_definition(RING, self.NONE, value))
        self.assertIs(is_storm(RING, self.NONE, (self.FIRST, self.AGAIN[:-1])), False)

    def test_by_definition(self):
        made = random.Random(30)
        told = {True: 0, False: 0}
        for choices in wavering_choices(120, 4):
            state = (None,) * len(choices.lists)
            nodes = range(1, len(state) + 1)
            for first, again in [storm(choices, state) or ((1, 2), (1, 2, 3))] * 20:
                again = list(again)
                for _ in range(made.randint(0, 2)):
                    again.insert(made.randrange(len(again)), made.choice(nodes))
                    again.pop(made.choice((0, made.randrange(len(again)))))
                value = (first[:made.randint(1, 20)], tuple(again))
                wanted = storm_by_definition(choices, state, value)
                self.assertIs(is_storm(choices, state, value), wanted)
                told[wanted] += 1
        self.assertGreater(min(told.values()), 100, told)

    def test_values_that_are_none(self):
        first, again = self.FIRST, self.AGAIN
        wrong = [(), (first,), (first, again, ()), [first, again], (list(first), again), (first, list(again)), again]
        wrong += [(again, ()), (None, again), (first, None), (first, {}), ("123", again), (first, "123"), (1, again)]
        for node in (0, 4, -1, 10 ** 30, *NO_INTEGERS):
            wrong += [((*first, node), again), ((node, *first), again)]
            wrong += [(first, (*again, node)), (first, (node, *again))]
            wrong += [(node, again), (first, node)]
        wrong += [*NO_OBJECTS, RING, (RING, RING), ((RING,), (RING,))]
        for value in wrong:
            self.assertIs(is_storm(RING, self.NONE, value), False, value)
            self.assertIs(is_storm(NOTHING, (), value), False, value)

    def test_no_limit(self):
        # Only storm and states_from tell that more than 2000 states can be reached.
        choices = Choices((*read_choices(MOST).lists, ((7, 0),)))
        first, again = storm(choices, (*(None,) * 6, (7, 0)))
        self.assert_error(TooMany, storm, choices, (None,) * 7, most=2000)
        self.assertIs(is_storm(choices, (None,) * 7, ((7, *first), again)), True)

    def test_errors_in_order(self):
        for value in NO_OBJECTS:
            self.assert_error(NotChoices, is_storm, value, None, None)
        for state in (*NO_TUPLES, (), (None,)):
            self.assert_error(BadState, is_storm, QUARREL, state, None, index=None)
        self.assert_error(BadState, is_storm, QUARREL, (None, (2,)), ((), ()), index=1)


if __name__ == "__main__":
    unittest.main()
