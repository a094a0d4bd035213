"""Stacks of labels that rules change, and where packets with them can come."""

from heapq import heapify, heappop, heappush

from routeweb.checks import are_numbers, is_number, is_tuple
from routeweb.errors import BadNode, BadRun, BadStack, BadStackRules

NODES = (0, 1, 2, 3, 4, 5, 6, 7)
MOST_LABEL = 5
MOST_RULES = 24
MOST_PUT = 2
MOST_STACK = 12

# A trail tells rules that apply one after another. Its items are (index,), a rule, and (node, label, end), the
# rules that take a label off at a node, whatever is below, and after which the packet is at an end.


def _is_node(value):
    return is_number(value, 0, len(NODES) - 1)


def _is_stack(value, most):
    return are_numbers(value, 0, MOST_LABEL) and len(value) <= most


def _is_rule(value):
    if not is_tuple(value, 4, 4):
        return False
    node, label, after, put = value
    return _is_node(node) and is_number(label, 0, MOST_LABEL) and _is_node(after) and _is_stack(put, MOST_PUT)


def _check_rules(rules):
    if not is_tuple(rules, 0, MOST_RULES):
        raise BadStackRules(None)
    for index, rule in enumerate(rules):
        if not _is_rule(rule):
            raise BadStackRules(index)


def _check_node(node):
    if not _is_node(node):
        raise BadNode("no node from 0 to 7")


def _check_packet(rules, node, stack):
    _check_rules(rules)
    _check_node(node)
    if not _is_stack(stack, MOST_STACK):
        raise BadStack("no stack of at most 12 labels")


def run(rules, node, stack, numbers):
    """The packet (node, stack) behind the rules with some indexes, one after another."""
    _check_packet(rules, node, stack)
    if not isinstance(numbers, tuple):
        raise BadRun(None)
    place = node
    labels = stack
    for index, number in enumerate(numbers):
        if not is_number(number, 0, len(rules) - 1) or rules[number][:2] != (place, *labels[:1]):
            raise BadRun(index)
        _, _, place, put = rules[number]
        labels = put + labels[1:]
    return place, labels


def _drains(rules):
    """For each (node, label, end) with a trail that takes the label off the shortest one: the pair (length, trail)."""
    found = {}
    is_changed = True
    while is_changed:
        is_changed = False
        for index, (node, label, after, put) in enumerate(rules):
            drained = _drained(found, after, put)
            for end in drained:
                length, parts = drained[end]
                if _is_shorter(length + 1, found.get((node, label, end))):
                    # A trail is longer than its parts, and later only shorter ones take the place of
                    # these, so that none is ever a part of itself.
                    found[(node, label, end)] = (length + 1, ((index,), *parts))
                    is_changed = True
    return found


def _is_shorter(length, known):
    return known is None or length < known[0]


def _drained(ways, node, labels):
    """For each node at which all labels can be taken off the shortest trail: the pair (length, trail)."""
    found = {node: (0, ())}
    for label in labels:
        after = {}
        for place in found:
            length, parts = found[place]
            for part in [(place, label, end) for end in NODES if (place, label, end) in ways]:
                longer = length + ways[part][0]
                if _is_shorter(longer, after.get(part[2])):
                    after[part[2]] = (longer, (*parts, part))
        found = after
    return found


def _tops(ways, node, labels):
    """The list of the (length, top, trail) of the tops, a node and the uppermost label, while some label is left."""
    tops = []
    for taken in range(len(labels)):
        drained = _drained(ways, node, labels[:taken])
        tops += [(drained[place][0], (place, labels[taken]), drained[place][1]) for place in drained]
    return tops


def _next_tops(rules, ways, top):
    """The list of the (length, top, trail) of the tops behind one, the labels below never taken off."""
    tops = []
    for index, (node, label, after, put) in enumerate(rules):
        if (node, label) == top:
            tops += [(length + 1, other, ((index,), *parts)) for length, other, parts in _tops(ways, after, put)]
    return tops


def _tops_from(rules, ways, tops):
    """For each top that can come from some, as a list has them, the shortest trail: the pair (length, trail)."""
    found = {}
    waiting = list(tops)
    heapify(waiting)
    while waiting:
        length, top, trail = heappop(waiting)
        if top not in found:
            found[top] = (length, trail)
            for more, other, parts in _next_tops(rules, ways, top):
                heappush(waiting, (length + more, other, (*trail, *parts)))
    return found


def _run_of(ways, trail):
    """The tuple of the indexes of the rules of a trail."""
    numbers = []
    waiting = list(trail[::-1])
    while waiting:
        item = waiting.pop()
        if len(item) == 1:
            numbers.append(item[0])
        else:
            waiting.extend(ways[item][1][::-1])
    return tuple(numbers)


def drains(rules, node, label):
    """The ascending tuple of the nodes at which a packet with a label alone can be with no label left."""
    _check_rules(rules)
    _check_node(node)
    if not is_number(label, 0, MOST_LABEL):
        raise BadStack("no label from 0 to 5")
    return tuple(sorted(list(_drained(_drains(rules), node, (label,)))))


def drain_run(rules, node, stack, end):
    """Indexes of rules behind which a packet is at a node with no label left, None if there are none."""
    _check_packet(rules, node, stack)
    _check_node(end)
    ways = _drains(rules)
    drained = _drained(ways, node, stack)
    return _run_of(ways, drained[end][1]) if end in drained else None


def visit_run(rules, node, stack, goal):
    """Indexes of rules behind which a packet is at a node, with any labels, None if there are none."""
    _check_packet(rules, node, stack)
    _check_node(goal)
    ways = _drains(rules)
    drained = _drained(ways, node, stack)
    found = _tops_from(rules, ways, _tops(ways, node, stack))
    trails = [found[top] for top in found if top[0] == goal] + [drained[place] for place in drained if place == goal]
    return _run_of(ways, min(trails)[1]) if trails else None


def ring_run(rules, node, stack):
    """A pair of tuples of indexes of rules: first, and again, which can be done over and over then; None without any.

    Behind first a label is uppermost at a node, and behind again as well, the labels below never taken off.
    """
    _check_packet(rules, node, stack)
    ways = _drains(rules)
    found = _tops_from(rules, ways, _tops(ways, node, stack))
    rings = []
    for top in found:
        length, first = found[top]
        back = _tops_from(rules, ways, _next_tops(rules, ways, top))
        if top in back:
            rings.append((length + back[top][0], first, back[top][1]))
    if not rings:
        return None
    _, first, again = min(rings)
    return _run_of(ways, first), _run_of(ways, again)
