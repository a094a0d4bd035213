"""Tables of prefixes that tell hops of addresses, and where these lead."""

from routeweb.checks import are_numbers, is_number, is_tuple
from routeweb.errors import BadBits, BadNode, BadRules, TooMany

MOST_WIDTH = 5
MOST_RULES = 63
MOST_HOP = 7
MOST_TABLES = 8


def _check_width(width):
    if not is_number(width, 1, MOST_WIDTH):
        raise TooMany(MOST_WIDTH)


def _check_address(width, address):
    if not are_numbers(address, 0, 1) or len(address) != width:
        raise BadBits("no address of this width")


def _is_rule(width, value, most_hop):
    if not is_tuple(value, 2, 2) or not are_numbers(value[0], 0, 1):
        return False
    return len(value[0]) <= width and is_number(value[1], 0, most_hop)


def _wrong_rule(width, rules, most_hop):
    """The index of the first item that is no rule or has a prefix that stands earlier, None without any."""
    prefixes = []
    for index, item in enumerate(rules):
        if not _is_rule(width, item, most_hop) or item[0] in prefixes:
            return index
        prefixes.append(item[0])
    return None


def _has_default(rules):
    return () in [prefix for prefix, _ in rules]


def _check_rules(width, rules):
    if not is_tuple(rules, 0, MOST_RULES):
        raise BadRules(None)
    wrong = _wrong_rule(width, rules, MOST_HOP)
    if wrong is not None or not _has_default(rules):
        raise BadRules(wrong)


def _is_table(width, value, most_hop):
    return is_tuple(value, 1, MOST_RULES) and _wrong_rule(width, value, most_hop) is None and _has_default(value)


def _check_tables(width, tables):
    if not is_tuple(tables, 1, MOST_TABLES):
        raise BadRules(None)
    for index, table in enumerate(tables):
        if not _is_table(width, table, len(tables) - 1):
            raise BadRules(index)


def _check_node(tables, node):
    if not is_number(node, 0, len(tables) - 1):
        raise BadNode("no node with a table")


def _addresses(width):
    """The ascending list of all addresses."""
    addresses = [()]
    for _ in range(width):
        addresses = [(*address, bit) for address in addresses for bit in (0, 1)]
    return addresses


def _hop_of(rules, address):
    """The hop that rules tell of an address."""
    fitting = [(len(prefix), hop) for prefix, hop in rules if address[:len(prefix)] == prefix]
    # No two prefixes of one length fit, so the longest decides.
    return max(fitting)[1]


def lookup(width, rules, address):
    """The hop of the rule with the longest prefix with which an address begins."""
    _check_width(width)
    _check_rules(width, rules)
    _check_address(width, address)
    return _hop_of(rules, address)


def first_gap(width, one, other):
    """The least address of which two tables tell unlike hops, None if there is none."""
    _check_width(width)
    _check_rules(width, one)
    _check_rules(width, other)
    for address in _addresses(width):
        if _hop_of(one, address) != _hop_of(other, address):
            return address
    return None


def blocks(width, rules):
    """The ascending tuple of the shortest prefixes whose addresses have all one hop, with this hop."""
    _check_width(width)
    _check_rules(width, rules)
    found = []
    waiting = [()]
    while waiting:
        prefix = waiting.pop()
        rests = _addresses(width - len(prefix))
        hops = sorted(set([_hop_of(rules, prefix + rest) for rest in rests]))
        if len(hops) == 1:
            found.append((prefix, hops[0]))
        else:
            waiting.extend([(*prefix, 0), (*prefix, 1)])
    return tuple(sorted(found))


def _least_from(width, rules, prefix):
    """For each hop that shorter prefixes may tell the fewest rules with this prefix or longer ones."""
    if len(prefix) == width:
        told = _hop_of(rules, prefix)
        return [() if hop == told else ((prefix, told),) for hop in range(MOST_HOP + 1)]
    below = _least_below(width, rules, prefix)
    own = _with_own(prefix, below)
    return [min(rest, own, key=len) for rest in below]


def _least_below(width, rules, prefix):
    """For each hop that a prefix may tell the fewest rules with longer prefixes."""
    zero, one = [_least_from(width, rules, (*prefix, bit)) for bit in (0, 1)]
    return [left + right for left, right in zip(zero, one)]


def _with_own(prefix, below):
    """The fewest rules of which one has the prefix itself."""
    return min([((prefix, hop), *rest) for hop, rest in enumerate(below)], key=len)


def least_rules(width, rules):
    """An ascending tuple of as few rules as can be that tell the same hops."""
    _check_width(width)
    _check_rules(width, rules)
    return tuple(sorted(_with_own((), _least_below(width, rules, ()))))


def _way(tables, node, address):
    """The tuple of the nodes that an address passes, up to one that keeps it, or that comes again."""
    way = [node]
    hop = _hop_of(tables[node], address)
    while hop != way[-1] and way.count(way[-1]) == 1:
        way.append(hop)
        hop = _hop_of(tables[hop], address)
    return tuple(way)


def walk(width, tables, node, address):
    """The tuple of the nodes that an address passes from a node on, up to one that keeps it, or that comes again."""
    _check_width(width)
    _check_tables(width, tables)
    _check_node(tables, node)
    _check_address(width, address)
    return _way(tables, node, address)


def first_ring(width, tables):
    """The least pair (address, node) whose walk comes back to a node, None if there is none."""
    _check_width(width)
    _check_tables(width, tables)
    for address in _addresses(width):
        for node in range(len(tables)):
            way = _way(tables, node, address)
            if way.count(way[-1]) > 1:
                return (address, node)
    return None


def reach(width, tables, node, goal):
    """The ascending list of the addresses whose walk from a node ends at a goal that keeps them."""
    _check_width(width)
    _check_tables(width, tables)
    _check_node(tables, node)
    _check_node(tables, goal)
    kept = [address for address in _addresses(width) if _hop_of(tables[goal], address) == goal]
    return [address for address in kept if _way(tables, node, address)[-1] == goal]


def atoms(width, tables):
    """The ascending list of the ascending tuples of the addresses of which each table tells one hop."""
    _check_width(width)
    _check_tables(width, tables)
    groups = {}
    for address in _addresses(width):
        hops = tuple([_hop_of(table, address) for table in tables])
        groups.setdefault(hops, []).append(address)
    return sorted([tuple(group) for group in list(groups.values())])
