"""Labs: graphs that are built and asked line by line, with steps that can be taken back."""

from routeweb.checks import check_text
from routeweb.errors import NothingToRedo, NothingToUndo
from routeweb.graphs import MOST_NODES, MOST_WEIGHT, distance, graph_of
from routeweb.words import LineReader, lines_of

QUESTION = "far"


def _read_node(reader, size):
    return reader.take(list(range(size)))


def _read_arc(reader, size):
    """Two unlike nodes and a weight, the last words of a line."""
    tail = _read_node(reader, size)
    head = reader.take([node for node in range(size) if node != tail])
    weight = reader.take(list(range(1, MOST_WEIGHT + 1)))
    reader.finish()
    return tail, head, weight


# Each of these reads the words of a step behind the first one, and returns the size and the weights by the arcs
# behind the step; those ahead of it stay as they are.


def _resized(reader, _, weight_of):
    many = reader.take(list(range(1, MOST_NODES + 1)))
    reader.finish()
    return many, {arc: weight_of[arc] for arc in weight_of if max(arc) < many}


def _with_arc(reader, size, weight_of):
    tail, head, weight = _read_arc(reader, size)
    return size, {**weight_of, (tail, head): weight}


def _with_both(reader, size, weight_of):
    tail, head, weight = _read_arc(reader, size)
    return size, {**weight_of, (tail, head): weight, (head, tail): weight}


def _without_arc(reader, size, weight_of):
    tail = _read_node(reader, size)
    head = reader.take([node for node in range(size) if (tail, node) in weight_of])
    reader.finish()
    return size, {arc: weight_of[arc] for arc in weight_of if arc != (tail, head)}


def _without_arcs_at(reader, size, weight_of):
    node = _read_node(reader, size)
    reader.finish()
    return size, {arc: weight_of[arc] for arc in weight_of if node not in arc}


STEPS = {
    "nodes": _resized, "arc": _with_arc, "both": _with_both, "cut": _without_arc, "drop": _without_arcs_at,
}


class Lab:
    """A graph with weights, and the steps that led to it."""

    def __init__(self):
        self._begin = graph_of(1, {})
        # Pairs of a line and what is current behind it: the steps done, and those taken back, the last one last.
        self._done = []
        self._taken_back = []

    @property
    def current(self):
        """The pair (graph, weights) of now."""
        return self._done[-1][1] if self._done else self._begin

    @property
    def steps(self):
        """The tuple of the lines of the steps done and not taken back."""
        return tuple([line for line, _ in self._done])

    def run(self, line):
        """Do the step of a line, or answer its question."""
        check_text(line)
        graph, weights = self.current
        reader = LineReader(1, line)
        word = reader.take([*list(STEPS), QUESTION])
        if word == QUESTION:
            return _answer(reader, graph, weights)
        step = STEPS[word]
        size, weight_of = step(reader, len(graph.nodes), dict(zip(graph.arcs, weights)))
        self._done.append((line, graph_of(size, weight_of)))
        self._taken_back = []
        return None

    def undo(self):
        """Take the last step back."""
        if not self._done:
            raise NothingToUndo("no step is done")
        self._taken_back.append(self._done.pop())

    def redo(self):
        """Do the step again that was taken back last."""
        if not self._taken_back:
            raise NothingToRedo("no step is taken back")
        self._done.append(self._taken_back.pop())


def _answer(reader, graph, weights):
    """The distance between the two nodes that are the last words of a line."""
    node = _read_node(reader, len(graph.nodes))
    goal = _read_node(reader, len(graph.nodes))
    reader.finish()
    away = distance(graph, weights, node, goal)
    return "none" if away is None else str(away)


def replayed(text):
    """A lab in which the lines of a text are run, one after another."""
    lab = Lab()
    for line in lines_of(text):
        lab.run(line)
    return lab
