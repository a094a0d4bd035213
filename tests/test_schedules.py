"""Points 18 and 19: runs by schedules, and their phases."""

import random
import unittest

from routeweb.algebras import strict_break
from routeweb.errors import BadSchedule, BadState, NotNetwork
from routeweb.networks import Network, choice, quarrel, stable_states
from routeweb.schedules import phases, run
from tests.test_algebras import some_algebras
from tests.test_networks import FLAT, LINE, TWO, all_states, some_networks
from tests.values import NO_INTEGERS, NO_OBJECTS, NO_TUPLES, Raises

NOTHING = (None, None, None, None)


def some_schedule(made, inner, steps):
    schedule = []
    for _ in range(steps):
        nodes = [node for node in inner if made.random() < 0.6]
        made.shuffle(nodes)
        schedule.append(tuple((node, made.choice((0, 0, 1, 2, 9))) for node in nodes))
    return tuple(schedule)


def run_by_definition(network, inner, state, schedule):
    states = {0: state}
    for i, step in enumerate(schedule):
        ages = dict(step)
        after = []
        for node, route in zip(inner, states[i]):
            after.append(choice(network, node, states[max(0, i - ages[node])]) if node in ages else route)
        states[i + 1] = tuple(after)
    return [states[i] for i in range(len(schedule) + 1)]


def phases_by_definition(inner, schedule):
    begin, many = 0, 0
    while True:
        for end in range(begin, len(schedule)):
            steps = range(begin, end + 1)
            if all(any(node in dict(schedule[j]) and j - dict(schedule[j])[node] >= begin for j in steps)
                   for node in inner):
                break
        else:
            return many
        begin, many = end + 1, many + 1


class RunTest(Raises, unittest.TestCase):
    def test_empty_schedule(self):
        self.assertEqual(run(LINE, NOTHING, ()), [NOTHING])
        self.assertEqual(run(Network(FLAT, 1, 1, ()), (), ()), [()])

    def test_others_keep(self):
        one = ((1, 0), None, None, None)
        two = ((1, 0), (2, 1, 0), None, None)
        self.assertEqual(run(LINE, NOTHING, (((1, 0),), (), ((2, 0),))), [NOTHING, one, one, two])

    def test_all_at_once(self):
        one = ((1, 0), None, None, None)
        two = ((1, 0), (2, 1, 0), None, None)
        everyone = tuple((node, 0) for node in (4, 2, 1, 3))
        self.assertEqual(run(LINE, NOTHING, (everyone, everyone)), [NOTHING, one, two])

    def test_ages(self):
        one = ((1, 0), None, None, None)
        two = ((1, 0), (2, 1, 0), None, None)
        # In step 1 node 2 still chooses in the first state; so with ages that go back beyond it.
        self.assertEqual(run(LINE, NOTHING, (((1, 0),), ((2, 1),), ((2, 1),))), [NOTHING, one, one, two])
        self.assertEqual(run(LINE, NOTHING, (((1, 9),), ((2, 9),), ((2, 2),))), [NOTHING, one, one, one])

    def test_an_old_state_changes_what_a_node_has(self):
        here, there = ((1, 0), (2, 0)), ((1, 2, 0), (2, 0))
        states = run(quarrel(FLAT), here, (((1, 0),), ((2, 0),), ((2, 2),)))
        self.assertEqual(states, [here, there, there, ((1, 2, 0), (2, 1, 0))])

    def test_by_definition(self):
        made = random.Random(18)
        for network, ends, size in some_networks(80, some_algebras(80), 3):
            inner = range(ends, size)
            schedule = some_schedule(made, inner, 12)
            state = made.choice(list(all_states(network, ends, size)))
            self.assertEqual(run(network, state, schedule), run_by_definition(network, inner, state, schedule))

    def test_longest_schedule(self):
        step = ((3, 0), (2, 9))
        self.assertEqual(len(run(TWO, (None, None), (step,) * 400)), 401)
        self.assert_error(BadSchedule, run, TWO, (None, None), (step,) * 401, index=None)
        self.assert_error(BadSchedule, phases, TWO, (step,) * 401, index=None)

    def test_wrong_schedules(self):
        calls = (lambda network, schedule: run(network, (None, None), schedule), phases)
        wrong = [((2, 0), (2, 0)), ((2, 0), (3, 0), (2, 1)), ((1, 0),), ((4, 0),), ((-1, 0),), ((2, 10),), ((2, -1),)]
        wrong += [((2,),), ((2, 0, 0),), (2, 0), ([2, 0],), ((2, 10 ** 30),), *NO_TUPLES]
        wrong += [((2, value),) for value in NO_INTEGERS] + [((value, 0),) for value in NO_INTEGERS]
        for call in calls:
            for schedule in NO_TUPLES:
                self.assert_error(BadSchedule, call, TWO, schedule, index=None)
            for step in wrong:
                self.assert_error(BadSchedule, call, TWO, (step,), index=0)
                self.assert_error(BadSchedule, call, TWO, ((), ((3, 9), (2, 0)), step, None), index=2)

    def test_errors_in_order(self):
        for value in NO_OBJECTS:
            self.assert_error(NotNetwork, run, value, None, None)
            self.assert_error(NotNetwork, phases, value, None)
        for state in (*NO_TUPLES, ()):
            self.assert_error(BadState, run, TWO, state, None, index=None)
        self.assert_error(BadState, run, TWO, ((2, 0), (2, 0)), None, index=1)

    def test_new_list(self):
        state = (None, None)
        run(TWO, state, ()).clear()
        self.assertEqual(run(TWO, state, ()), [state])


class PhasesTest(unittest.TestCase):
    def test_none(self):
        self.assertEqual(phases(TWO, ()), 0)
        self.assertEqual(phases(TWO, ((), ((2, 0),), ((2, 0),))), 0)

    def test_each_inner_node_acts(self):
        both = ((2, 0), (3, 0))
        self.assertEqual(phases(TWO, (both, both, both)), 3)
        self.assertEqual(phases(TWO, (((2, 0),), ((3, 0),), ((2, 0),), ((2, 0),), ((3, 0),), ((3, 0),))), 2)

    def test_ages_within_the_phase(self):
        both, old = ((2, 0), (3, 0)), ((2, 0), (3, 1))
        self.assertEqual(phases(TWO, (both, old, both)), 2)
        self.assertEqual(phases(TWO, (both, both, old, ((3, 1),))), 3)
        self.assertEqual(phases(TWO, (old,)), 0)
        self.assertEqual(phases(TWO, (old, old)), 1)
        self.assertEqual(phases(TWO, (old, old, old)), 1)
        self.assertEqual(phases(TWO, (old, old, old, old)), 2)

    def test_no_inner_nodes(self):
        # There every step ends a phase, as no node is lacking in it.
        self.assertEqual(phases(Network(FLAT, 2, 2, ()), ((), (), ())), 3)

    def test_by_definition(self):
        made = random.Random(19)
        for network, ends, size in some_networks(80, some_algebras(80), 3):
            schedule = some_schedule(made, range(ends, size), 40)
            self.assertEqual(phases(network, schedule), phases_by_definition(range(ends, size), schedule))

    def test_enough_phases_settle_strict_algebras(self):
        made = random.Random(20)
        strict = [algebra for algebra in some_algebras(600) if strict_break(algebra) is None]
        settled = 0
        for network, ends, size in some_networks(11, strict, 3):
            schedule = some_schedule(made, range(ends, size), 120)
            many = size - ends
            if phases(network, schedule) >= many * (many + 1) + 1:
                state = made.choice(list(all_states(network, ends, size)))
                self.assertEqual(run(network, state, schedule)[-1], stable_states(network)[0])
                settled += 1
        self.assertGreater(settled, 20)


if __name__ == "__main__":
    unittest.main()
