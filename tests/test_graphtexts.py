"""Point 5: texts of graphs."""

import unittest

from routeweb.errors import BadWeights, InvalidText, NotGraph, NotText
from routeweb.graphs import Graph
from routeweb.graphtexts import read_graph, write_graph
from tests.test_graphs import some_graphs
from tests.values import NO_OBJECTS, NO_STRINGS, NO_TUPLES, Raises


class WriteGraphTest(Raises, unittest.TestCase):
    def test_arcs_are_ascending(self):
        graph = Graph(3, ((2, 0), (0, 2), (0, 1)))
        self.assertEqual(write_graph(graph, (1, 20, 100)), "nodes 3\narc 0 1 1\narc 0 2 20\narc 2 0 100")

    def test_no_arcs(self):
        self.assertEqual(write_graph(Graph(1, ()), ()), "nodes 1")

    def test_errors_in_order(self):
        for value in NO_OBJECTS:
            self.assert_error(NotGraph, write_graph, value, None)
        graph = Graph(3, ((2, 0), (0, 2)))
        for value in NO_TUPLES:
            self.assert_error(BadWeights, write_graph, graph, value, index=None)
        self.assert_error(BadWeights, write_graph, graph, (1, True), index=1)


class ReadGraphTest(Raises, unittest.TestCase):
    def assert_invalid(self, line, word, *lines):
        self.assert_error(InvalidText, read_graph, "\n".join(lines), line=line, word=word)

    def test_there_and_back(self):
        for graph, weights in some_graphs(30, 8):
            found = read_graph(write_graph(graph, weights))
            self.assertIsInstance(found, tuple)
            self.assertEqual(found, (graph, weights))

    def test_arcs_in_any_order(self):
        found = read_graph("nodes 8\narc 7 0 3\narc 0 7 100\narc 0 6 10")
        self.assertEqual(found, (Graph(8, ((0, 6), (0, 7), (7, 0))), (10, 100, 3)))

    def test_further_spaces(self):
        found = read_graph("  nodes   2  \n arc  1   0    5 \narc 0 1 1   ")
        self.assertEqual(found, (Graph(2, ((0, 1), (1, 0))), (1, 5)))

    def test_no_arcs(self):
        self.assertEqual(read_graph("nodes 1"), (Graph(1, ()), ()))

    def test_no_text(self):
        for value in NO_STRINGS:
            self.assert_error(NotText, read_graph, value)

    def test_lines_without_words(self):
        self.assert_invalid(1, 1, "")
        self.assert_invalid(1, 1, "   ")
        self.assert_invalid(1, 1, "", "nodes 3")
        self.assert_invalid(2, 1, "nodes 3", "")
        self.assert_invalid(3, 1, "nodes 3", "arc 0 1 1", "  ", "arc 0 1 1")

    def test_other_first_words(self):
        for word in ("node", "Nodes", "arc", "nodes3", "3", "nodes\t3"):
            self.assert_invalid(1, 1, f"{word} 3")
        for word in ("nodes", "arcs", "Arc", "0", "\tarc", "arc\r"):
            self.assert_invalid(2, 1, "nodes 3", f"{word} 0 1 1")

    def test_only_spaces_part_words(self):
        self.assert_invalid(1, 2, "nodes 3\t")
        self.assert_invalid(1, 2, "nodes 3\r", "arc 0 1 1")
        self.assert_invalid(2, 2, "nodes 3", "arc\u00a00 1 1".replace("\u00a0", " \u00a0"))
        self.assert_invalid(1, 2, "nodes 3\u2028arc 0 1 1")
        self.assert_invalid(1, 1, "nodes\x0b3")

    def test_words_are_lacking(self):
        self.assert_invalid(1, 2, "nodes")
        self.assert_invalid(1, 2, " nodes  ")
        self.assert_invalid(2, 2, "nodes 3", "arc")
        self.assert_invalid(2, 3, "nodes 3", "arc 0")
        self.assert_invalid(2, 4, "nodes 3", "arc 0 1")

    def test_further_words(self):
        self.assert_invalid(1, 3, "nodes 3 0")
        self.assert_invalid(1, 3, "nodes 3 arc 0 1 1")
        self.assert_invalid(2, 5, "nodes 3", "arc 0 1 1 1")
        self.assert_invalid(2, 5, "nodes 3", "arc 0 1 1 1 1")

    def test_sizes(self):
        for word in ("0", "9", "10", "03", "-1", "+3", "3.", "x", "", "\u00b3", "\u0663", "1_0", "9" * 5000):
            self.assert_invalid(1, 2, f"nodes {word}")

    def test_numbers_of_arcs(self):
        wrong = ("3", "00", "01", "-1", "-0", "+1", "x", "\u00b9", "\u0661", "0x1", "9" * 5000)
        for word in wrong:
            self.assert_invalid(2, 2, "nodes 3", f"arc {word} 1 1")
            self.assert_invalid(2, 3, "nodes 3", f"arc 0 {word} 1")
        for word in ("0", "101", "1000", "01", "001", "-5", "+5", "x", "\u0665", "9" * 5000):
            self.assert_invalid(2, 4, "nodes 3", f"arc 0 1 {word}")

    def test_equal_ends(self):
        self.assert_invalid(2, 3, "nodes 3", "arc 1 1 1")
        self.assert_invalid(2, 3, "nodes 3", "arc 1 1")
        self.assert_invalid(2, 3, "nodes 1", "arc 0 0 1")

    def test_arc_stands_earlier(self):
        self.assert_invalid(4, 3, "nodes 3", "arc 0 1 1", "arc 1 0 1", "arc 0 1 2")
        self.assert_invalid(3, 3, "nodes 3", "arc 0 1 1", "arc 0 1 0 0")

    def test_first_word_that_cannot_stand(self):
        self.assert_invalid(2, 2, "nodes 3", "arc 9")
        self.assert_invalid(2, 2, "nodes 3", "arc 9 9 999 9")
        self.assert_invalid(2, 3, "nodes 3", "arc 1 1 0 0")
        self.assert_invalid(2, 4, "nodes 3", "arc 1 2 0 0")

    def test_first_line_that_cannot_stand(self):
        self.assert_invalid(1, 2, "nodes 0", "arcs")
        self.assert_invalid(3, 1, "nodes 3", "arc 0 1 1", "arcs", "arc 0 1 1", "")


if __name__ == "__main__":
    unittest.main()
