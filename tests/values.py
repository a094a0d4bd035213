"""Values that are wrong in most places, and a check of the errors that calls raise."""

from routeweb.graphs import Graph

GRAPH = Graph(3, ((0, 1), (1, 2)))
NO_STRINGS = (None, True, 0, (), ("nodes 1",), ["nodes 1"], {}, GRAPH)
NO_OBJECTS = (None, True, False, 0, 1, -1, "", "graph", (), (0,), [], [(0, 1)], {}, {0: 1}, ValueError)
NO_TUPLES = (None, True, 0, 1, "", "01", [], [(0, 1)], {}, {0: 1}, GRAPH)
NO_INTEGERS = (None, True, False, "", "0", "1", (), (0,), (1,), [], [0], {}, {0: 0}, GRAPH)


class Raises:
    """A part of a test case: that a call raises an error with just these fields."""

    def assert_error(self, error, call, *arguments, **fields):
        before = repr(arguments)
        with self.assertRaises(error) as caught:
            call(*arguments)
        self.assertEqual(repr(arguments), before, "an argument was modified")
        self.assertIs(caught.exception.__class__, error)
        found = {name: getattr(caught.exception, name) for name in fields}
        self.assertEqual(found, fields)
        for name in fields:
            # True == 1 in Python, but is not the same index.
            self.assertIs(type(found[name]), type(fields[name]))
