"""Runs of choices in which nodes take anew one by one, and those that need never end."""

from routeweb.checks import are_numbers, is_tuple
from routeweb.choices import check_choices, check_state, taken_in
from routeweb.errors import TooMany
from routeweb.walks import knots_among

MOST_STATES = 2000


def _after(choices, state, node):
    """The state behind one in which a node takes anew."""
    return (*state[:node - 1], taken_in(choices, node, state), *state[node:])


def _moves_from(choices, state):
    """For each state that can be reached from one the list of the states behind it, as node 1, 2 and so on takes."""
    nodes = range(1, len(choices.lists) + 1)
    moves = {}
    found = {state: True}
    waiting = [state]
    while waiting:
        last = waiting.pop()
        moves[last] = [_after(choices, last, node) for node in nodes]
        for after in moves[last]:
            if after not in found:
                found[after] = True
                waiting.append(after)
        if len(found) > MOST_STATES:
            raise TooMany(MOST_STATES)
    return moves


def _rank_of(state):
    """The key that orders states node by node, None behind all paths."""
    return [(path is None, path or ()) for path in state]


def states_from(choices, state):
    """The pair of how many states can be reached from one, and the list of the stable ones among them."""
    check_choices(choices)
    check_state(choices, state)
    moves = _moves_from(choices, state)
    stable = [found for found in moves if all([after == found for after in moves[found]])]
    return len(moves), sorted(stable, key=_rank_of)


def storm(choices, state):
    """A pair (first, again) of tuples of nodes that is a storm from a state, None if there is none."""
    check_choices(choices)
    check_state(choices, state)
    moves = _moves_from(choices, state)
    nodes = range(1, len(choices.lists) + 1)
    for knot in knots_among(moves):
        places = [_staying(moves, knot, node) for node in nodes]
        # Where all nodes keep their paths, the state is alone in its knot.
        if len(knot) > 1 and all([len(staying) > 0 for staying in places]):
            first, begin = _way(moves, state, {knot[0]: True})
            return first, _round_trip(moves, begin, places)
    return None


def _staying(moves, knot, node):
    """The states of a knot of which a node makes a state of the knot."""
    inside = {state: True for state in knot}
    return {state: True for state in knot if moves[state][node - 1] in inside}


def _way(moves, begin, goals):
    """The shortest tuple of nodes that take anew from a state on up to one of the goals, and this goal."""
    ways = {begin: ()}
    waiting = [begin]
    while waiting[0] not in goals:
        state = waiting.pop(0)
        for node, after in enumerate(moves[state], start=1):
            if after not in ways:
                ways[after] = (*ways[state], node)
                waiting.append(after)
    return ways[waiting[0]], waiting[0]


def _round_trip(moves, begin, places):
    """A tuple of nodes that lead from a state of a knot back to it, each of them taking anew in one of its places."""
    again = []
    state = begin
    for node, staying in enumerate(places, start=1):
        way, place = _way(moves, state, staying)
        again += [*way, node]
        state = moves[place][node - 1]
    # From a state of a knot no way to another one of its states leaves it.
    way, _ = _way(moves, state, {begin: True})
    return (*again, *way)


def is_storm(choices, state, value):
    """Whether a value is a storm from a state."""
    check_choices(choices)
    check_state(choices, state)
    many = len(choices.lists)
    if not is_tuple(value, 2, 2) or not all([are_numbers(part, 1, many) for part in value]):
        return False
    first, again = value
    begin = _run(choices, state, first)[-1]
    states = _run(choices, begin, again)
    if not all([node in again for node in range(1, many + 1)]):
        return False
    return states[-1] == begin and any([passed != begin for passed in states])


def _run(choices, state, nodes):
    """The list of the states from one on, as nodes take anew one after another."""
    states = [state]
    for node in nodes:
        states.append(_after(choices, states[-1], node))
    return states
