"""Nodes that are customers, providers and peers of each other, and the paths for which somebody pays."""

from routeweb.checks import are_numbers, are_unlike, is_number, is_tuple
from routeweb.choices import MOST_PATHS, Choices
from routeweb.errors import BadNode, BadTrade, NotTrade, TooMany
from routeweb.walks import paths_to, ring_among

MOST_NODES = 8
MOST_PAIRS = 56


class Trade:
    """The nodes 0 to size - 1, customers: pairs (provider, customer), and pairs of peers."""

    def __init__(self, size, customers, peers):
        if not is_number(size, 1, MOST_NODES):
            raise BadTrade(None)
        if not is_tuple(customers, 0, MOST_PAIRS) or not is_tuple(peers, 0, MOST_PAIRS):
            raise BadTrade(None)
        earlier = []
        for index, pair in enumerate(customers + peers):
            if not _is_pair(size, pair) or sorted(pair) in earlier:
                raise BadTrade(index)
            earlier.append(sorted(pair))
        self.size = size
        self.customers = customers
        self.peers = peers


def _is_pair(size, value):
    return are_numbers(value, 0, size - 1) and len(value) == 2 and value[0] != value[1]


def check_trade(trade):
    """Raise NotTrade for a value that is no trade."""
    if not isinstance(trade, Trade):
        raise NotTrade("no trade")


def _is_provider(trade, one, other):
    return (one, other) in trade.customers


def _rank_of_link(trade, one, other):
    """0 if the other node is a customer of one, 1 for a peer, 2 for a provider, None for none of them."""
    if _is_provider(trade, one, other):
        return 0
    if (one, other) in trade.peers or (other, one) in trade.peers:
        return 1
    return 2 if _is_provider(trade, other, one) else None


def is_paid(trade, path):
    """Whether a value is a path of which each node but the first and last one is paid by one beside it."""
    check_trade(trade)
    if not are_numbers(path, 0, trade.size - 1) or len(path) == 0 or not are_unlike(path):
        return False
    if not all([_rank_of_link(trade, one, other) is not None for one, other in zip(path, path[1:])]):
        return False
    return all([_gains(trade, path[at], (path[at - 1], path[at + 1])) for at in range(1, len(path) - 1)])


def _gains(trade, node, others):
    """Whether a node is a provider of one of the others."""
    return any([_is_provider(trade, node, other) for other in others])


def paid_paths(trade, node):
    """The list of the paid paths of two nodes or more from a node to node 0, those by its customers first."""
    check_trade(trade)
    if not is_number(node, 0, trade.size - 1):
        raise BadNode("no node of the trade")
    nodes = range(trade.size)
    heads = {one: [other for other in nodes if _rank_of_link(trade, one, other) is not None] for one in nodes}
    paths = [path for path in paths_to(heads, node, (0,)) if len(path) > 1 and is_paid(trade, path)]
    return sorted(paths, key=lambda path: (_rank_of_link(trade, path[0], path[1]), len(path), path))


def ring_of_customers(trade):
    """A tuple of nodes, each the provider of the next one, the last one the first one again; None without any."""
    check_trade(trade)
    nodes = range(trade.size)
    return ring_among({one: [other for other in nodes if _is_provider(trade, one, other)] for one in nodes})


def trade_choices(trade):
    """The choices of the paid paths of the nodes from 1 on."""
    check_trade(trade)
    lists = [tuple(paid_paths(trade, node)) for node in range(1, trade.size)]
    if max([len(paths) for paths in lists], default=0) > MOST_PATHS:
        raise TooMany(MOST_PATHS)
    return Choices(tuple(lists))
