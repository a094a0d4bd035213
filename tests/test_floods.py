"""Point 67: floods of statements."""

import random
import unittest

from routeweb.errors import BadNode, BadNumber
from routeweb.floods import Flood
from routeweb.graphs import Graph
from tests.values import NO_INTEGERS, NO_TUPLES, Raises


def picture(flood, size):
    return [flood.records(node) for node in range(size)]


class FloodTest(Raises, unittest.TestCase):
    def test_at_first(self):
        flood = Flood(3)
        self.assertEqual(picture(flood, 3), [(), (), ()])
        self.assertIs(flood.is_known(), True)
        self.assertEqual(flood.view(2), (Graph(3, ()), ()))

    def test_sizes(self):
        self.assertEqual(Flood(1).view(0), (Graph(1, ()), ()))
        self.assertEqual(len(Flood(8).view(7)[0].nodes), 8)
        for value in (0, 9, -1, 10 ** 30, *NO_INTEGERS):
            self.assert_error(BadNode, Flood, value)

    def test_no_node(self):
        flood = Flood(3)
        flood.state(1, ((0, 5),))
        for value in (3, -1, 10 ** 30, *NO_INTEGERS):
            self.assert_error(BadNode, flood.state, value, None)
            self.assert_error(BadNode, flood.state, value, ())
            self.assert_error(BadNode, flood.tell, value, None)
            self.assert_error(BadNode, flood.tell, value, 1)
            self.assert_error(BadNode, flood.tell, 1, value)
            self.assert_error(BadNode, flood.records, value)
            self.assert_error(BadNode, flood.view, value)
        self.assertEqual(picture(flood, 3), [(), ((1, 1, ((0, 5),)),), ()])


class StateTest(Raises, unittest.TestCase):
    def test_state(self):
        flood = Flood(3)
        self.assertIsNone(flood.state(1, ((0, 1), (2, 100))))
        self.assertEqual(flood.records(1), ((1, 1, ((0, 1), (2, 100))),))
        self.assertEqual((flood.records(0), flood.records(2)), ((), ()))

    def test_number(self):
        flood = Flood(3)
        flood.state(1, ((0, 1),))
        flood.state(1, ())
        self.assertEqual(flood.records(1), ((1, 2, ()),))
        flood.state(1, ())
        self.assertEqual(flood.records(1), ((1, 3, ()),))
        # Each node has a number of its own.
        flood.state(0, ())
        self.assertEqual(flood.records(0), ((0, 1, ()),))

    def test_up_to_1000(self):
        flood = Flood(2)
        for _ in range(1000):
            flood.state(0, ())
        self.assert_error(BadNumber, flood.state, 0, ((1, 1),))
        self.assertEqual(flood.records(0), ((0, 1000, ()),))
        flood.state(1, ((0, 1),))
        self.assertEqual(flood.tell(1, 0), 1)
        self.assertEqual(flood.records(1), ((0, 1000, ()), (1, 1, ((0, 1),))))

    def test_no_arcs(self):
        flood = Flood(4)
        flood.state(1, ((0, 5),))
        wrong = [*NO_TUPLES, [(0, 5)], (0, 5), ((0,),), ((0, 5, 1),), ([0, 5],), (None,), ("05",), (((0, 5),),)]
        wrong += [((1, 5),), ((0, 5), (1, 5)), ((4, 5),), ((-1, 5),), ((0, 0),), ((0, 101),), ((0, -1),)]
        # Heads that do not ascend, also where they are equal.
        wrong += [((2, 5), (0, 5)), ((0, 5), (0, 5)), ((0, 5), (0, 6)), ((0, 5), (3, 5), (2, 5))]
        for value in NO_INTEGERS:
            wrong += [((value, 5),), ((0, value),), ((0, 5), (2, value)), ((0, 5), (value, 2))]
        for value in wrong:
            self.assert_error(BadNumber, flood.state, 1, value)
        self.assertEqual(picture(flood, 4), [(), ((1, 1, ((0, 5),)),), (), ()])
        # The number did not grow either.
        flood.state(1, ((0, 6), (2, 1), (3, 1)))
        self.assertEqual(flood.records(1), ((1, 2, ((0, 6), (2, 1), (3, 1))),))


class TellTest(Raises, unittest.TestCase):
    def test_tell(self):
        flood = Flood(3)
        flood.state(0, ((1, 5),))
        flood.state(1, ((0, 4),))
        self.assertEqual(flood.tell(1, 0), 1)
        self.assertEqual(picture(flood, 3), [((0, 1, ((1, 5),)),), ((0, 1, ((1, 5),)), (1, 1, ((0, 4),))), ()])
        # 2 takes what 1 took, and what it stated.
        self.assertEqual(flood.tell(2, 1), 2)
        self.assertEqual(flood.records(2), flood.records(1))
        self.assertEqual(flood.tell(2, 1), 0)
        self.assertEqual(flood.tell(2, 0), 0)

    def test_from_itself(self):
        flood = Flood(2)
        flood.state(0, ())
        self.assertEqual(flood.tell(0, 0), 0)
        self.assertEqual(flood.records(0), ((0, 1, ()),))

    def test_only_greater_numbers(self):
        flood = Flood(3)
        flood.state(0, ((1, 5),))
        flood.tell(1, 0)
        flood.state(0, ((2, 5),))
        flood.tell(2, 0)
        # 1 knows the older one, and does not bring it to 2 or back to 0.
        self.assertEqual((flood.tell(2, 1), flood.tell(0, 1)), (0, 0))
        self.assertEqual(flood.records(2), ((0, 2, ((2, 5),)),))
        self.assertEqual(flood.records(0), ((0, 2, ((2, 5),)),))
        self.assertEqual(flood.tell(1, 2), 1)
        self.assertEqual(flood.records(1), ((0, 2, ((2, 5),)),))

    def test_some_newer_and_some_older(self):
        flood = Flood(3)
        flood.state(0, ())
        flood.state(1, ())
        flood.tell(0, 1)
        flood.tell(1, 0)
        flood.state(0, ((1, 1),))
        flood.state(1, ((2, 2),))
        flood.state(2, ())
        flood.tell(1, 2)
        self.assertEqual(flood.tell(0, 1), 2)
        self.assertEqual(flood.records(0), ((0, 2, ((1, 1),)), (1, 2, ((2, 2),)), (2, 1, ())))

    def test_what_was_taken_stays(self):
        flood = Flood(2)
        flood.state(0, ((1, 1),))
        flood.tell(1, 0)
        flood.state(0, ())
        self.assertEqual(flood.records(1), ((0, 1, ((1, 1),)),))


class ViewTest(unittest.TestCase):
    def test_both_ways(self):
        flood = Flood(4)
        flood.state(0, ((1, 5), (2, 6), (3, 7)))
        self.assertEqual(flood.view(0), (Graph(4, ()), ()))
        flood.state(1, ((0, 50), (2, 8)))
        flood.state(3, ((1, 9),))
        flood.tell(0, 1)
        flood.tell(0, 3)
        # 3 states no arc back to 0, and 1 none to 3; 2 states nothing.
        self.assertEqual(flood.view(0), (Graph(4, ((0, 1), (1, 0))), (5, 50)))
        self.assertEqual(flood.view(1), (Graph(4, ()), ()))
        flood.state(2, ((0, 60), (1, 80)))
        self.assertEqual(flood.view(0), (Graph(4, ((0, 1), (1, 0))), (5, 50)))
        flood.tell(0, 2)
        self.assertEqual(
            flood.view(0), (Graph(4, ((0, 1), (0, 2), (1, 0), (1, 2), (2, 0), (2, 1))), (5, 6, 50, 8, 60, 80)),
        )

    def test_newer_statements(self):
        flood = Flood(2)
        flood.state(0, ((1, 5),))
        flood.state(1, ((0, 6),))
        flood.tell(0, 1)
        flood.state(1, ())
        self.assertEqual(flood.view(0), (Graph(2, ((0, 1), (1, 0))), (5, 6)))
        flood.tell(0, 1)
        self.assertEqual(flood.view(0), (Graph(2, ()), ()))

    def test_greatest_graph(self):
        flood = Flood(8)
        for node in range(8):
            flood.state(node, tuple((head, 10 * node + head + 1) for head in range(8) if head != node))
            flood.tell(7, node)
        graph, weights = flood.view(7)
        self.assertEqual(len(graph.arcs), 56)
        self.assertEqual(weights, tuple(10 * tail + head + 1 for tail, head in graph.arcs))


class KnownTest(unittest.TestCase):
    def test_is_known(self):
        flood = Flood(3)
        flood.state(1, ())
        self.assertIs(flood.is_known(), False)
        flood.tell(0, 1)
        self.assertIs(flood.is_known(), False)
        flood.tell(2, 0)
        self.assertIs(flood.is_known(), True)
        flood.state(1, ())
        # The same arcs, but another number.
        self.assertIs(flood.is_known(), False)
        flood.tell(0, 1)
        flood.tell(2, 1)
        self.assertIs(flood.is_known(), True)

    def test_last_node_counts(self):
        flood = Flood(2)
        flood.state(1, ())
        self.assertIs(flood.is_known(), False)
        self.assertIs(Flood(1).is_known(), True)


class Model:
    """A flood as the document tells it: for each node the statements by origin."""

    def __init__(self, size):
        self.stated = [[] for _ in range(size)]
        # How many of the statements of an origin each node knows of.
        self.newest = [[0] * size for _ in range(size)]

    def state(self, node, arcs):
        self.stated[node].append(arcs)
        self.newest[node][node] = len(self.stated[node])

    def tell(self, node, neighbor):
        pairs = list(zip(self.newest[node], self.newest[neighbor]))
        self.newest[node] = [max(pair) for pair in pairs]
        return sum(own < other for own, other in pairs)

    def records(self, node):
        known = [(origin, number) for origin, number in enumerate(self.newest[node]) if number]
        return tuple((origin, number, self.stated[origin][number - 1]) for origin, number in known)


class ModelTest(unittest.TestCase):
    def test_by_definition(self):
        made = random.Random(67)
        known = 0
        for size in (1, 2, 3, 5) * 5:
            flood, model = Flood(size), Model(size)
            for _ in range(60):
                node, neighbor = made.randrange(size), made.randrange(size)
                if made.random() < 0.2:
                    heads = [head for head in range(size) if head != node and made.random() < 0.5]
                    arcs = tuple((head, made.randint(1, 100)) for head in heads)
                    flood.state(node, arcs)
                    model.state(node, arcs)
                else:
                    self.assertEqual(flood.tell(node, neighbor), model.tell(node, neighbor))
                records = [model.records(place) for place in range(size)]
                self.assertEqual(picture(flood, size), records)
                self.assertIs(flood.is_known(), len(set(records)) == 1)
                known += len(set(records)) == 1
                stated = {(origin, head): weight for origin, _, arcs in records[node] for head, weight in arcs}
                both = sorted(arc for arc in stated if arc[::-1] in stated)
                self.assertEqual(flood.view(node), (Graph(size, tuple(both)), tuple(stated[arc] for arc in both)))
        self.assertGreater(known, 300)


if __name__ == "__main__":
    unittest.main()
