"""Points 70 and 71: labs."""

import random
import unittest

from routeweb.errors import InvalidText, NothingToRedo, NothingToUndo, NotText
from routeweb.graphs import Graph, distance
from routeweb.graphtexts import read_graph, write_graph
from routeweb.labs import Lab, replayed
from tests.values import NO_STRINGS, Raises

# A line 0, 1, 2 both ways, and an arc from 0 to 2.
TEXT = "nodes 3\nboth 0 1 4\nboth 1 2 5\narc 0 2 10"


def shown(lab):
    """All that a lab shows."""
    graph, weights = lab.current
    return write_graph(graph, weights), lab.steps


class LabTest(Raises, unittest.TestCase):
    def test_at_first(self):
        lab = Lab()
        self.assertEqual(lab.current, (Graph(1, ()), ()))
        self.assertEqual(lab.steps, ())
        self.assertEqual(lab.run("far 0 0"), "0")

    def test_steps(self):
        lab = Lab()
        for line in TEXT.split("\n"):
            self.assertIsNone(lab.run(line))
        self.assertEqual(lab.current, (Graph(3, ((0, 1), (0, 2), (1, 0), (1, 2), (2, 1))), (4, 10, 4, 5, 5)))
        self.assertEqual(lab.steps, tuple(TEXT.split("\n")))

    def test_lines_are_kept_as_they_are(self):
        lab = Lab()
        lab.run("  nodes   2 ")
        lab.run("arc 0   1 7")
        self.assertEqual(lab.steps, ("  nodes   2 ", "arc 0   1 7"))
        self.assertEqual(lab.current, (Graph(2, ((0, 1),)), (7,)))

    def test_steps_that_change_nothing_are_steps(self):
        lab = replayed("nodes 1\ndrop 0\nnodes 1")
        self.assertEqual(lab.steps, ("nodes 1", "drop 0", "nodes 1"))
        lab.undo()
        lab.undo()
        self.assertEqual(lab.steps, ("nodes 1",))

    def test_question_is_no_step(self):
        lab = replayed("nodes 2\narc 0 1 3")
        lab.undo()
        before = shown(lab)
        self.assertEqual(lab.run("far 0 1"), "none")
        self.assertEqual(shown(lab), before)
        # Nor does it forget what was taken back.
        lab.redo()
        self.assertEqual(lab.run("far 0 1"), "3")

    def test_two_labs(self):
        one, other = Lab(), Lab()
        one.run("nodes 2")
        self.assertEqual(shown(other), ("nodes 1", ()))

    def test_not_text(self):
        lab = replayed(TEXT)
        before = shown(lab)
        for value in NO_STRINGS:
            self.assert_error(NotText, lab.run, value)
            self.assert_error(NotText, replayed, value)
        self.assertEqual(shown(lab), before)


class UndoTest(Raises, unittest.TestCase):
    def test_undo_and_redo(self):
        lab = replayed(TEXT)
        lines = TEXT.split("\n")
        for many in (3, 2, 1, 0):
            self.assertIsNone(lab.undo())
            self.assertEqual(shown(lab), shown(replayed("\n".join(lines[:many]))))
        for many in (1, 2, 3, 4):
            self.assertIsNone(lab.redo())
            self.assertEqual(shown(lab), shown(replayed("\n".join(lines[:many]))))

    def test_nothing_to_undo(self):
        lab = Lab()
        self.assert_error(NothingToUndo, lab.undo)
        lab.run("far 0 0")
        self.assert_error(NothingToUndo, lab.undo)
        lab.run("nodes 2")
        lab.undo()
        self.assert_error(NothingToUndo, lab.undo)
        self.assertEqual(shown(lab), ("nodes 1", ()))
        lab.redo()
        self.assertEqual(shown(lab), ("nodes 2", ("nodes 2",)))

    def test_nothing_to_redo(self):
        lab = Lab()
        self.assert_error(NothingToRedo, lab.redo)
        lab.run("nodes 2")
        self.assert_error(NothingToRedo, lab.redo)
        lab.undo()
        lab.redo()
        self.assert_error(NothingToRedo, lab.redo)
        self.assertEqual(shown(lab), ("nodes 2", ("nodes 2",)))

    def test_new_step_forgets(self):
        lab = replayed(TEXT)
        lab.undo()
        lab.undo()
        lab.run("nodes 4")
        self.assert_error(NothingToRedo, lab.redo)
        self.assertEqual(lab.steps, ("nodes 3", "both 0 1 4", "nodes 4"))
        # Also a step that was taken back, or that changes nothing.
        lab.undo()
        lab.run("nodes 4")
        self.assert_error(NothingToRedo, lab.redo)
        lab.undo()
        lab.run("nodes 3")
        self.assert_error(NothingToRedo, lab.redo)

    def test_line_with_an_error_forgets_nothing(self):
        lab = replayed(TEXT)
        lab.undo()
        self.assert_error(InvalidText, lab.run, "nodes 9", line=1, word=2)
        self.assert_error(NotText, lab.run, None)
        lab.redo()
        self.assertEqual(shown(lab), shown(replayed(TEXT)))

    def test_last_one_taken_back_is_done_first(self):
        lab = replayed("nodes 2\nnodes 3\nnodes 4")
        for _ in range(3):
            lab.undo()
        lab.redo()
        self.assertEqual(lab.steps, ("nodes 2",))
        lab.redo()
        self.assertEqual(lab.steps, ("nodes 2", "nodes 3"))


class ReplayedTest(Raises, unittest.TestCase):
    def test_empty_text(self):
        self.assertEqual(shown(replayed("")), ("nodes 1", ()))

    def test_questions(self):
        lab = replayed("far 0 0\nnodes 2\nfar 0 1")
        self.assertEqual(lab.steps, ("nodes 2",))

    def test_steps_of_a_lab(self):
        lab = replayed(TEXT)
        lab.undo()
        lab.run("cut 1 0")
        self.assertEqual(shown(replayed("\n".join(lab.steps))), shown(lab))

    def test_errors(self):
        # The line is 1 wherever it stands.
        self.assert_error(InvalidText, replayed, "nodes 2\nnodes 3\ncut 0 1", line=1, word=3)
        self.assert_error(InvalidText, replayed, "nodes 2\n", line=1, word=1)
        self.assert_error(InvalidText, replayed, "\nnodes 2", line=1, word=1)
        self.assert_error(InvalidText, replayed, "nodes 2\n\nnodes 9", line=1, word=1)
        self.assert_error(InvalidText, replayed, " ", line=1, word=1)

    def test_many_lines(self):
        self.assertEqual(len(replayed("\n".join(["nodes 2", "nodes 3"] * 300)).steps), 600)

    def test_labs_are_new(self):
        replayed(TEXT).undo()
        self.assertEqual(len(replayed(TEXT).steps), 4)


class LinesTest(Raises, unittest.TestCase):
    def behind(self, *lines):
        return shown(replayed("\n".join([TEXT, *lines])))[0].split("\n")[1:]

    def test_nodes(self):
        self.assertEqual(self.behind("nodes 8"), ["arc 0 1 4", "arc 0 2 10", "arc 1 0 4", "arc 1 2 5", "arc 2 1 5"])
        self.assertEqual(self.behind("nodes 2"), ["arc 0 1 4", "arc 1 0 4"])
        self.assertEqual(self.behind("nodes 1"), [])
        self.assertEqual(len(replayed("nodes 8").current[0].nodes), 8)
        # What is left out does not come back with the nodes.
        self.assertEqual(self.behind("nodes 2", "nodes 3"), ["arc 0 1 4", "arc 1 0 4"])

    def test_arc(self):
        wanted = ["arc 0 1 4", "arc 0 2 10", "arc 1 0 4", "arc 1 2 5", "arc 2 0 100", "arc 2 1 5"]
        self.assertEqual(self.behind("arc 2 0 100"), wanted)
        self.assertEqual(self.behind("arc 0 1 1"), ["arc 0 1 1", "arc 0 2 10", "arc 1 0 4", "arc 1 2 5", "arc 2 1 5"])

    def test_both(self):
        wanted = ["arc 0 1 4", "arc 0 2 7", "arc 1 0 4", "arc 1 2 5", "arc 2 0 7", "arc 2 1 5"]
        # One of the two is there and changes its weight, the other one is put.
        self.assertEqual(self.behind("both 0 2 7"), wanted)
        self.assertEqual(self.behind("both 2 0 7"), wanted)

    def test_cut(self):
        self.assertEqual(self.behind("cut 1 0"), ["arc 0 1 4", "arc 0 2 10", "arc 1 2 5", "arc 2 1 5"])
        self.assertEqual(self.behind("cut 1 0", "cut 0 1"), ["arc 0 2 10", "arc 1 2 5", "arc 2 1 5"])

    def test_drop(self):
        self.assertEqual(self.behind("drop 1"), ["arc 0 2 10"])
        self.assertEqual(self.behind("drop 0"), ["arc 1 2 5", "arc 2 1 5"])
        self.assertEqual(len(replayed(f"{TEXT}\ndrop 1").current[0].nodes), 3)

    def test_far(self):
        lab = replayed(TEXT)
        self.assertEqual([lab.run(f"far {node} {goal}") for node in range(3) for goal in range(3)], [
            "0", "4", "9", "4", "0", "5", "9", "5", "0",
        ])
        lab.run("nodes 4")
        self.assertEqual((lab.run("far 0 3"), lab.run("far 3 0"), lab.run("far 3 3")), ("none", "none", "0"))
        self.assertEqual(lab.run("  far  0   2 "), "9")

    def test_greatest_graph(self):
        lines = ["nodes 8"] + [f"both {node} {other} 100" for node in range(8) for other in range(node)]
        lab = replayed("\n".join(lines))
        self.assertEqual(len(lab.current[0].arcs), 56)
        self.assertEqual(lab.run("far 7 0"), "100")

    def test_invalid_words(self):
        lab = replayed(TEXT)
        before = shown(lab)
        for line, word in (
            ("", 1), ("   ", 1), ("Nodes 2", 1), ("node 2", 1), ("3", 1), ("nodes: 2", 1), ("undo", 1), ("\tdrop 2", 1),
            ("nodes", 2), ("nodes 0", 2), ("nodes 9", 2), ("nodes 02", 2), ("nodes +2", 2), ("nodes -2", 2),
            ("nodes two", 2), ("nodes 2 2", 3), ("nodes 9 2", 2), ("nodes 2\t", 2), ("nodes 10", 2),
            ("arc", 2), ("arc 0", 3), ("arc 0 1", 4), ("arc 0 1 5 5", 5), ("arc 3 1 5", 2), ("arc 0 3 5", 3),
            ("arc 0 0 5", 3), ("arc 3 3 5", 2), ("arc 0 0", 3), ("arc 0 0 0 0", 3), ("arc 0 1 0", 4),
            ("arc 0 1 101", 4),
            ("arc 00 1 5", 2), ("arc 0 01 5", 3), ("arc 0 1 05", 4), ("arc -1 0 5", 2), ("arc 0,1 5", 2),
            ("arc 0 1 x", 4), ("both", 2), ("both 1", 3), ("both 1 2", 4), ("both 1 2 3 4", 5), ("both 1 1 3", 3),
            ("both 3 1 3", 2), ("both 1 3 3", 3), ("both 1 2 0", 4), ("both 1 2 1000", 4),
            ("cut", 2), ("cut 0", 3), ("cut 0 1 4", 4), ("cut 0 1 cut", 4), ("cut 3 0", 2), ("cut 0 3", 3),
            ("cut 1 1", 3), ("cut 2 0", 3), ("cut 2 0 4", 3), ("cut 0 01", 3),
            ("drop", 2), ("drop 3", 2), ("drop 0 1", 3), ("drop 00", 2), ("drop x 1", 2),
            ("far", 2), ("far 0", 3), ("far 3 0", 2), ("far 0 3", 3), ("far 0 0 0", 4), ("far 0 1 4", 4),
            ("far 0 -1", 3), ("far 3 3 3", 2), ("far 01 0", 2),
        ):
            self.assert_error(InvalidText, lab.run, line, line=1, word=word)
            self.assert_error(InvalidText, replayed, f"{TEXT}\n{line}", line=1, word=word)
        self.assertEqual(shown(lab), before)
        lab.undo()
        self.assertEqual(lab.steps, tuple(TEXT.split("\n")[:3]))

    def test_lines_are_parted_by_replayed_alone(self):
        self.assert_error(InvalidText, Lab().run, "nodes 2\nnodes 3", line=1, word=2)
        self.assert_error(InvalidText, Lab().run, "nodes 2\n", line=1, word=2)

    def test_one_node(self):
        for line in ("arc 0 0 1", "both 0 0 1", "cut 0 0", "arc 0 1 1", "cut 0 1", "far 0 1"):
            self.assert_error(InvalidText, Lab().run, line, line=1, word=3)
        for line in ("arc 1 0 1", "both 1 0 1", "cut 1 0", "far 1 0", "drop 1"):
            self.assert_error(InvalidText, Lab().run, line, line=1, word=2)

    def test_nodes_that_are_gone(self):
        lab = replayed(f"{TEXT}\nnodes 2")
        for line in ("arc 2 1 1", "both 2 1 1", "cut 2 1", "drop 2", "far 2 1"):
            self.assert_error(InvalidText, lab.run, line, line=1, word=2)
        lab.undo()
        self.assertEqual(lab.run("far 2 1"), "5")


class Model:
    """A lab as the document tells it: the lines, done anew each time."""

    def __init__(self):
        self.done, self.back = [], []

    def current(self):
        size, weights = 1, {}
        for line in self.done:
            word, *numbers = line.split()
            numbers = [int(number) for number in numbers]
            if word == "nodes":
                size = numbers[0]
                weights = {arc: weight for arc, weight in weights.items() if arc[0] < size and arc[1] < size}
            elif word == "drop":
                weights = {arc: weight for arc, weight in weights.items() if numbers[0] not in arc}
            elif word == "cut":
                del weights[tuple(numbers)]
            else:
                tail, head, weight = numbers
                weights[tail, head] = weight
                if word == "both":
                    weights[head, tail] = weight
        return size, weights

    def text(self):
        size, weights = self.current()
        lines = [f"arc {tail} {head} {weights[tail, head]}" for tail, head in sorted(weights)]
        return "\n".join([f"nodes {size}", *lines])


class ModelTest(Raises, unittest.TestCase):
    def line(self, made, size, arcs):
        """A line that can stand."""
        words = ["nodes"] + ["arc", "both"] * 6 * (size > 1) + ["cut"] * 3 * bool(arcs) + ["drop"]
        word = made.choice(words)
        if word in ("arc", "both"):
            tail, head = made.sample(range(size), 2)
            return f"{word} {tail} {head} {made.randint(1, 100)}"
        if word == "cut":
            tail, head = made.choice(arcs)
            return f"cut {tail} {head}"
        return f"nodes {made.choice((1, 3, 4, 5, 6, 7, 8))}" if word == "nodes" else f"drop {made.randrange(size)}"

    def step(self, made, lab, model):
        kind = made.choice(("run", "run", "run", "run", "run", "undo", "redo"))
        if kind == "run":
            size, weights = model.current()
            line = self.line(made, size, sorted(weights))
            lab.run(line)
            model.done.append(line)
            model.back = []
        elif kind == "undo":
            if model.done:
                lab.undo()
                model.back.append(model.done.pop())
            else:
                self.assert_error(NothingToUndo, lab.undo)
        elif model.back:
            lab.redo()
            model.done.append(model.back.pop())
        else:
            self.assert_error(NothingToRedo, lab.redo)

    def test_by_definition(self):
        made = random.Random(70)
        for _ in range(20):
            lab, model = Lab(), Model()
            for _ in range(60):
                self.step(made, lab, model)
                self.assertEqual(shown(lab), (model.text(), tuple(model.done)))
                graph, weights = read_graph(model.text())
                node, goal = made.choice(graph.nodes), made.choice(graph.nodes)
                away = distance(graph, weights, node, goal)
                self.assertEqual(lab.run(f"far {node} {goal}"), "none" if away is None else str(away))


if __name__ == "__main__":
    unittest.main()
