"""Bridges that tell each other the root that they believe in, and the tree that comes of it."""

from routeweb.graphs import check_link, check_node, check_weighted


class Bridges:
    """Nodes that each believe in a root, by what their neighbors told them last."""

    def __init__(self, graph, weights):
        check_weighted(graph, weights, ())
        self._graph = graph
        self._weight_of = dict(zip(graph.arcs, weights))
        # For each arc at which something was told the pair (root, cost) that was told last.
        self._told = {}

    def belief(self, bridge):
        """What a bridge believes: the triple (root, cost, neighbor by which it is reached)."""
        check_node(self._graph, bridge)
        beliefs = [(bridge, 0, bridge)]
        for (hearer, neighbor), (root, cost) in self._told.items():
            if hearer == bridge:
                beliefs.append((root, cost + self._weight_of[(hearer, neighbor)], neighbor))
        return min(beliefs)

    def tell(self, bridge, neighbor):
        """Let a neighbor tell a bridge what it believes now."""
        check_link(self._graph, self._graph.arcs, bridge, neighbor)
        self._told[(bridge, neighbor)] = self.belief(neighbor)[:2]

    def is_quiet(self):
        """Whether no telling at any arc would change what was told."""
        return all([self._told.get(arc) == self.belief(arc[1])[:2] for arc in self._graph.arcs])

    def tree(self):
        """The ascending tuple of the pairs (bridge, neighbor) of the bridges that believe in another root."""
        beliefs = [(bridge, self.belief(bridge)) for bridge in self._graph.nodes]
        return tuple([(bridge, neighbor) for bridge, (root, _, neighbor) in beliefs if root != bridge])


def least_tree(graph, weights):
    """The tree of bridges that are quiet."""
    bridges = Bridges(graph, weights)
    # What is told only gets less, and is true of some walk, so that this ends.
    while not bridges.is_quiet():
        for bridge, neighbor in graph.arcs:
            bridges.tell(bridge, neighbor)
    return bridges.tree()
