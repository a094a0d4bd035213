"""Point 1 over the whole program: errors, arguments that stay as they are, and lists that are new."""

import copy
import importlib
import unittest

from routeweb import errors
from routeweb.algebras import Algebra
from routeweb.bridges import Bridges
from routeweb.choices import Choices
from routeweb.floods import Flood
from routeweb.graphs import Graph
from routeweb.labs import Lab, replayed
from routeweb.networks import Network
from routeweb.policies import Policy
from routeweb.reports import Reports
from routeweb.trades import Trade
from tests.test_language import CREATED, INTERFACE

GRAPH = Graph(4, ((0, 1), (0, 2), (1, 0), (1, 3), (2, 0), (2, 3), (3, 1), (3, 2)))
WEIGHTS = (1, 2, 1, 2, 2, 1, 2, 1)
COSTS = ((1, 1),) * 8
HOPS = Algebra((0, 1, 2), ((1, 2, None),))
NETWORK = Network(HOPS, 1, 3, ((1, 0, 0), (2, 1, 0)))
CHOICES = Choices((((1, 2, 0), (1, 0)), ((2, 1, 0), (2, 0))))
CALM = Choices((((1, 0),), ((2, 1, 0),)))
TRADE = Trade(4, ((1, 0), (2, 0), (3, 1)), ((1, 2),))
POLICY = Policy("if has a then prefer 3")
TABLE = (((), 1), ((0,), 0))
TABLES = (TABLE, (((), 1), ((1, 1), 0)))
RULES = ((0, 0, 1, (1, 2)), (1, 1, 2, ()), (2, 2, 3, ()), (3, 3, 3, (3,)))
EMPTY = (None, None)

# For each function of the interface arguments with which it raises no error.
GOOD = {
    "graphs": {
        "simple_paths": (GRAPH, 0, 3), "distance": (GRAPH, WEIGHTS, 0, 3), "nearest_paths": (GRAPH, WEIGHTS, 0, 3),
        "next_hops": (GRAPH, WEIGHTS, 0, 3), "Graph": (3, ((0, 1), (1, 2))),
    },
    "graphtexts": {"write_graph": (GRAPH, WEIGHTS), "read_graph": ("nodes 2\narc 0 1 5",)},
    "algebras": {
        "Algebra": ((0, 1, 2), ((1, 2, None),)), "followed": (HOPS, (0,), 1), "growing_break": (HOPS,),
        "strict_break": (HOPS,), "isotone_break": (HOPS,), "cancelling_break": (HOPS,), "constant_break": (HOPS,),
        "even_break": (HOPS,), "does_deny": (HOPS,), "has_steps": (HOPS,), "lexicographic": (HOPS, HOPS),
        "scoped": (HOPS, HOPS), "united": (HOPS, HOPS),
    },
    "networks": {
        "Network": (HOPS, 1, 3, ((1, 0, 0), (2, 1, 0))), "routes_of": (NETWORK, 2),
        "route_value": (NETWORK, (2, 1, 0)), "best_level": (NETWORK, 2), "choice": (NETWORK, 2, ((1, 0), None)),
        "stable_states": (NETWORK,), "rounds": (NETWORK, EMPTY), "quarrel": (HOPS,), "detour": (HOPS,),
        "greedy_state": (NETWORK,),
    },
    "schedules": {"run": (NETWORK, EMPTY, (((1, 0),),)), "phases": (NETWORK, (((1, 0), (2, 0)),))},
    "choices": {
        "Choices": ((((1, 0),), ((2, 1, 0),)),), "taken": (CHOICES, 1, EMPTY), "stable_of": (CHOICES,),
        "wheel": (CHOICES,), "is_wheel": (CHOICES, ()), "numbering": (CHOICES,), "is_numbering": (CHOICES, ()),
        "settled": (CALM,), "choices_of": (NETWORK,),
    },
    "choicetexts": {"write_choices": (CHOICES,), "read_choices": ("1: 10",)},
    "storms": {
        "states_from": (CHOICES, EMPTY), "storm": (CHOICES, EMPTY), "is_storm": (CHOICES, EMPTY, ((), (1, 2))),
    },
    "trades": {
        "Trade": (4, ((1, 0), (2, 0), (3, 1)), ((1, 2),)), "is_paid": (TRADE, (3, 1, 0)), "paid_paths": (TRADE, 3),
        "ring_of_customers": (TRADE,), "trade_choices": (TRADE,),
    },
    "spares": {
        "is_spare": (GRAPH, WEIGHTS, 0, 1, 3), "is_node_spare": (GRAPH, WEIGHTS, 0, 1, 2, 3),
        "spares": (GRAPH, WEIGHTS, 0, 3), "remote_spares": (GRAPH, WEIGHTS, 0, 1, 3),
        "distance_without": (GRAPH, WEIGHTS, 0, 1, 0, 3), "by_two": (GRAPH, WEIGHTS, 0, 1, 0, 3),
    },
    "updates": {
        "ring_of_round": ((0, 1, 2), (2, 3, 0), (), (1, 2)), "depth_rounds": ((0, 1, 2), (2, 3, 0)),
        "least_rounds": ((0, 1, 2), (2, 3, 0)), "bypass_of_round": ((0, 1, 2), (2, 3, 0), (3,), (1, 2), 2, 1),
        "guarded_rounds": ((0, 1, 2), (2, 3, 0), 2, 1),
    },
    "tables": {
        "lookup": (2, TABLE, (0, 1)), "first_gap": (2, TABLE, TABLE), "blocks": (2, TABLE), "least_rules": (2, TABLE),
        "walk": (2, TABLES, 0, (0, 1)), "first_ring": (2, TABLES), "reach": (2, TABLES, 0, 1), "atoms": (2, TABLES),
    },
    "policies": {
        "Policy": ("if then",), "write_policy": (POLICY,), "first_unlike": (POLICY, POLICY), "idle_clauses": (POLICY,),
        "joined": (POLICY, POLICY), "algebra_of": ((POLICY, POLICY),), "record_of": (5,),
    },
    "fronts": {
        "front": (GRAPH, COSTS, 0, 3), "front_path": (GRAPH, COSTS, 0, 3, (2, 2)),
        "least_within": (GRAPH, COSTS, 0, 3, 9),
    },
    "reports": {"Reports": (GRAPH, WEIGHTS)},
    "stacks": {
        "run": (RULES, 0, (0, 5), (0, 1)), "drains": (RULES, 0, 0), "drain_run": (RULES, 0, (0,), 3),
        "visit_run": (RULES, 0, (0,), 2), "ring_run": (RULES, 0, (0, 3)),
    },
    "segments": {
        "led": (GRAPH, WEIGHTS, 0, (("over", 2), ("to", 3))), "least_segments": (GRAPH, WEIGHTS, (0, 1, 3)),
    },
    "shares": {
        "shares": (GRAPH, WEIGHTS, 0, 3), "shares_at": (GRAPH, WEIGHTS, 0, 3, 2),
        "loads": (GRAPH, WEIGHTS, ((0, 3, 6), (1, 3, 1))),
    },
    "bridges": {"Bridges": (GRAPH, WEIGHTS), "least_tree": (GRAPH, WEIGHTS)},
    "floods": {"Flood": (3,)},
    "disjoint": {
        "disjoint_paths": (GRAPH, 0, 3), "least_disjoint": (GRAPH, WEIGHTS, 0, 3, 2),
        "nearest_many": (GRAPH, WEIGHTS, 0, 3, 2),
    },
    "labs": {"Lab": (), "replayed": ("nodes 2\narc 0 1 5",)},
}


def a_run():
    run = Reports(GRAPH, WEIGHTS)
    for arc in ((1, 0), (2, 0), (3, 1), (3, 2), (0, 1)):
        run.tell(*arc)
        run.choose(arc[0])
    run.fail(3, 2)
    return run


def some_bridges():
    bridges = Bridges(GRAPH, WEIGHTS)
    for arc in ((1, 0), (3, 1), (3, 2)):
        bridges.tell(*arc)
    return bridges


def a_flood():
    flood = Flood(3)
    flood.state(0, ((1, 5),))
    flood.state(1, ((0, 6), (2, 7)))
    flood.tell(2, 1)
    return flood


def a_lab():
    lab = replayed("nodes 3\nboth 0 1 4\narc 1 2 5")
    lab.undo()
    return lab


# The errors that tell of an argument alone, whatever the others are.
ERRORS_OF = {
    "graph": {errors.NotGraph}, "weights": {errors.BadWeights}, "costs": {errors.BadCosts}, "node": {errors.BadNode},
    "neighbor": {errors.BadNode}, "lost": {errors.BadNode}, "goal": {errors.BadNode},
    "algebra": {errors.NotAlgebra}, "network": {errors.NotNetwork}, "choices": {errors.NotChoices},
    "trade": {errors.NotTrade}, "state": {errors.BadState}, "word": {errors.BadWord}, "width": {errors.TooMany},
    "rules": {errors.BadRules, errors.BadStackRules}, "tables": {errors.BadRules}, "stack": {errors.BadStack},
    "one": {errors.NotAlgebra, errors.NotPolicy, errors.BadRules, errors.BadNode}, "done": {errors.BadRounds},
    "start": {errors.BadNode},
}

# Objects that calls change, and for each of their methods arguments with which it raises no error.
METHODS = (
    (a_run, {
        "renew": (), "tell": (0, 2), "choose": (3,), "fail": (1, 0), "weigh": (1, 0, 9), "route": (3,), "limit": (1,),
        "walk": (3,),
    }),
    (some_bridges, {"belief": (3,), "tell": (2, 3), "is_quiet": (), "tree": ()}),
    (a_flood, {"state": (2, ((0, 1),)), "tell": (0, 1), "records": (2,), "view": (1,), "is_known": ()}),
    (a_lab, {"run": ("nodes 2",), "undo": (), "redo": ()}),
    (lambda: Policy("if has a then prefer 3"), {"apply": ((0, 1, "ab"),)}),
)


def odd_values():
    """Values of all kinds that an argument may have, new ones each time."""
    deep = ()
    for _ in range(60):
        deep = (deep,)
    plain = [
        None, True, False, 0, 1, 2, 3, 7, 8, -1, 64, 1001, 10 ** 40, "", "a", "to", "nodes", "1:", "if then", "\n\n",
        (), (0,), (1,), (None,), (True,), (False, 1), (0, 1), (1, 0), (0, 1, 2), ((),), ((0,),), ((0, 1),), ((0, 0),),
        ((0, 1), (0, 1)), ((0, 1, 2),), ((0, 1, 2, 3),), ((0, 1, 2, ()),), (((), 0),), (((0,), True),), deep,
        ("to", 1), (("to", 1),), (("over", True),), ((None, None), None), ("", ""), (1,) * 65, ((1, 1),) * 65,
        (("a",),), ([],), ([0, 1],), ({},), (([0], 1),), ({0: 1}, 0), ((0, [1]),), ((0, (1, [2])),), (0, 0, {}),
        [], [0], [(0, 1)], [[]], {}, {0: 1}, {"a": [1]}, {(0, 1): 2},
    ]
    objects = [
        Graph(4, ((0, 1),)), Algebra((0,), ((None,),)), Network(HOPS, 1, 1, ()), Choices(()), Trade(1, (), ()),
        Policy(""), a_run(), some_bridges(), a_flood(), a_lab(),
    ]
    return plain + objects + [(one,) for one in objects] + [((one, 1),) for one in objects] + [[one] for one in objects]


def inside(value, depth=0):
    """A picture of a value and of all that is in its attributes."""
    if isinstance(value, (tuple, list)):
        return (type(value).__name__, [inside(item, depth + 1) for item in value])
    if isinstance(value, dict):
        return ("dict", [(inside(key, depth + 1), inside(item, depth + 1)) for key, item in value.items()])
    if hasattr(value, "__dict__"):
        return (type(value).__name__, inside(vars(value), depth + 1))
    return (type(value).__name__, value)


def outcome(call, arguments):
    """The error that a call raises with its fields, or None."""
    try:
        call(*arguments)
    except errors.RouteError as error:
        return (type(error), vars(error))
    return None


def parameters(name):
    """The names of the parameters of a function or class of the interface."""
    file, call = name.split(".")
    return CREATED[call].split() if call in CREATED else INTERFACE[file][call].split()


def returned_lists(value):
    """The lists that a call returned."""
    parts = value if isinstance(value, tuple) else [value]
    return [part for part in parts if isinstance(part, list)]


def functions():
    """All functions and classes of the interface, with good arguments."""
    for file, calls in GOOD.items():
        module = importlib.import_module(f"routeweb.{file}")
        for name, arguments in calls.items():
            yield f"{file}.{name}", getattr(module, name), arguments


class WholeTest(unittest.TestCase):
    def test_nothing_is_left_out(self):
        listed = {(file, name) for file, names in INTERFACE.items() for name in names}
        self.assertEqual({(file, name) for file, calls in GOOD.items() for name in calls}, listed)
        methods = {type(make()).__name__: set(good) for make, good in METHODS}
        for names in INTERFACE.values():
            for name, wanted in names.items():
                if isinstance(wanted, dict):
                    told = {method for method in wanted if callable(getattr(self.class_of(name), method))}
                    self.assertEqual(methods.get(name, set()), told - {"__eq__"}, name)

    def class_of(self, name):
        for file, names in INTERFACE.items():
            if name in names:
                return getattr(importlib.import_module(f"routeweb.{file}"), name)
        return None

    def test_good_arguments(self):
        for name, call, arguments in functions():
            before = inside(arguments)
            self.assertIsNone(outcome(call, arguments), name)
            self.assertEqual(inside(arguments), before, name)

    def test_any_argument_may_be_any_value(self):
        values = odd_values()
        before = inside(values)
        raised = set()
        for name, call, arguments in functions():
            for at in range(len(arguments)):
                for value in values:
                    found = outcome(call, (*arguments[:at], value, *arguments[at + 1:]))
                    if found:
                        raised.add(found[0])
                        self.assertEqual(found[0].__bases__, (errors.RouteError,), name)
        self.assertEqual(inside(values), before)
        self.assertGreater(len(raised), 25)

    def test_first_argument_is_told(self):
        values = odd_values()
        told = set()
        for name, call, arguments in functions():
            for at, parameter in list(enumerate(parameters(name)))[:-1]:
                for value in values:
                    found = outcome(call, (*arguments[:at], value, *arguments[at + 1:]))
                    rest = len(arguments) - at - 1
                    if found and found[0] in ERRORS_OF.get(parameter, ()):
                        told.add(parameter)
                        for wrong in (None, (None,), True, "?", [], -1):
                            other = outcome(call, (*arguments[:at], value, *(wrong,) * rest))
                            self.assertEqual(other, found, (name, at, value, wrong))
        self.assertEqual(told, set(ERRORS_OF))

    def test_lists_are_new(self):
        names = []
        for name, call, arguments in functions():
            lists = returned_lists(call(*arguments))
            before = copy.deepcopy(lists)
            for one in lists:
                names.append(name)
                one.append(None)
            self.assertEqual(returned_lists(call(*arguments)), before, name)
        self.assertEqual(names, [
            "graphs.simple_paths", "graphs.nearest_paths", "networks.routes_of", "networks.stable_states",
            "networks.rounds", "schedules.run", "choices.stable_of", "storms.states_from", "trades.paid_paths",
            "tables.reach", "tables.atoms",
        ])


class MethodsTest(unittest.TestCase):
    def test_errors_change_nothing(self):
        raised = set()
        values = odd_values()
        for make, calls in METHODS:
            target = make()
            before = inside(target)
            for name, arguments in calls.items():
                for at in range(len(arguments)):
                    for value in values:
                        given = (*arguments[:at], value, *arguments[at + 1:])
                        found = outcome(getattr(target, name), given)
                        if found:
                            raised.add(found[0])
                            self.assertEqual(found[0].__bases__, (errors.RouteError,), name)
                            self.assertEqual(inside(target), before, (name, given))
                        else:
                            target = make()
        self.assertEqual(raised, {
            errors.BadNode, errors.NoLink, errors.BadNumber, errors.NotText, errors.InvalidText, errors.BadRecord,
        })

    def test_first_argument_is_told(self):
        values = odd_values()
        for make, calls in METHODS:
            for name, arguments in calls.items():
                for at in range(len(arguments) - 1):
                    for value in values:
                        found = outcome(getattr(make(), name), (*arguments[:at], value, *arguments[at + 1:]))
                        rest = (None,) * (len(arguments) - at - 1)
                        if found and found[0] is errors.BadNode:
                            self.assertEqual(outcome(getattr(make(), name), (*arguments[:at], value, *rest)), found)

    def test_questions_change_nothing(self):
        names = ("route", "limit", "walk", "belief", "is_quiet", "tree", "records", "view", "is_known", "apply")
        for make, calls in METHODS:
            for name in names:
                if name in calls:
                    target = make()
                    before = inside(target)
                    getattr(target, name)(*calls[name])
                    self.assertEqual(inside(target), before, name)
        lab = a_lab()
        before = inside(lab)
        self.assertEqual((lab.run("far 0 1"), lab.steps, len(lab.current)), ("4", ("nodes 3", "both 0 1 4"), 2))
        self.assertEqual(inside(lab), before)

    def test_steps_return_none(self):
        for make, calls in METHODS:
            for name in ("renew", "choose", "fail", "weigh", "state", "undo", "redo"):
                if name in calls:
                    self.assertIsNone(getattr(make(), name)(*calls[name]), name)

    def test_classes_are_tried(self):
        self.assertEqual(
            {name for name, call, _ in functions() if isinstance(call, type)},
            {f"{file}.{name}" for file, names in INTERFACE.items() for name in names if name in CREATED},
        )
        self.assertEqual(inside(Lab()), inside(replayed("")))


if __name__ == "__main__":
    unittest.main()
