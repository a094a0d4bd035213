"""Runs of networks in which nodes choose at their own times, from states that may be old."""

from routeweb.checks import are_unlike, is_number, is_tuple
from routeweb.errors import BadSchedule
from routeweb.networks import check_network, check_state, chosen, is_inner

MOST_STEPS = 400
MOST_AGE = 9


def _is_turn(network, value):
    return is_tuple(value, 2, 2) and is_inner(network, value[0]) and is_number(value[1], 0, MOST_AGE)


def _is_step(network, value):
    if not is_tuple(value, 0, len(network.inner)) or not all([_is_turn(network, item) for item in value]):
        return False
    return are_unlike([node for node, _ in value])


def _check_schedule(network, schedule):
    if not is_tuple(schedule, 0, MOST_STEPS):
        raise BadSchedule(None)
    for index, step in enumerate(schedule):
        if not _is_step(network, step):
            raise BadSchedule(index)


def run(network, state, schedule):
    """The list of the states from one on, one more for each step of a schedule."""
    check_network(network)
    check_state(network, state)
    _check_schedule(network, schedule)
    states = [state]
    for index, step in enumerate(schedule):
        after = dict(zip(network.inner, states[index]))
        for node, age in step:
            after[node] = chosen(network, node, states[max(0, index - age)])
        states.append(tuple([after[node] for node in network.inner]))
    return states


def phases(network, schedule):
    """How many phases a schedule has: in each one all nodes choose from states that belong to it."""
    check_network(network)
    _check_schedule(network, schedule)
    ended = 0
    begin = 0
    fresh = []
    for index, step in enumerate(schedule):
        fresh = fresh + [node for node, age in step if index - age >= begin]
        if all([node in fresh for node in network.inner]):
            ended += 1
            begin = index + 1
            fresh = []
    return ended
