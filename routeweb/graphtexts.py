"""Texts of graphs with weights."""

from routeweb.checks import check_text
from routeweb.graphs import MOST_NODES, MOST_WEIGHT, check_graph, check_weights, graph_of
from routeweb.words import LineReader


def write_graph(graph, weights):
    """The text of a graph and its weights."""
    check_graph(graph)
    check_weights(graph, weights)
    lines = [f"nodes {len(graph.nodes)}"]
    for (tail, head), weight in zip(graph.arcs, weights):
        lines.append(f"arc {tail} {head} {weight}")
    return "\n".join(lines)


def read_graph(text):
    """The pair (graph, weights) of a text."""
    check_text(text)
    lines = text.split("\n")
    size = _read_size(lines[0])
    weight_of = {}
    for index in range(1, len(lines)):
        arc, weight = _read_arc(LineReader(index + 1, lines[index]), size, weight_of)
        weight_of[arc] = weight
    return graph_of(size, weight_of)


def _read_size(text):
    reader = LineReader(1, text)
    reader.take(["nodes"])
    size = reader.take(list(range(1, MOST_NODES + 1)))
    reader.finish()
    return size


def _read_arc(reader, size, weight_of):
    reader.take(["arc"])
    tail = reader.take(list(range(size)))
    head = reader.take([node for node in range(size) if node != tail and (tail, node) not in weight_of])
    weight = reader.take(list(range(1, MOST_WEIGHT + 1)))
    reader.finish()
    return (tail, head), weight
