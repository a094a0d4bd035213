"""The package keeps to the subset of Python in which it is written, and defines what the interface lists."""

import ast
import builtins
import unittest
from pathlib import Path

FOLDER = Path(__file__).resolve().parent.parent / "routeweb"
FILES = sorted(FOLDER.glob("*.py"))
TREES = {path.stem: ast.parse(path.read_text("ascii")) for path in FILES}

INTERFACE = {
    "graphs": {
        "Graph": {"nodes": "", "arcs": "", "__eq__": "other"}, "simple_paths": "graph node goal",
        "distance": "graph weights node goal", "nearest_paths": "graph weights node goal",
        "next_hops": "graph weights node goal",
    },
    "graphtexts": {"write_graph": "graph weights", "read_graph": "text"},
    "algebras": {
        "Algebra": {"levels": "", "functions": "", "__eq__": "other"}, "followed": "algebra word element",
        "growing_break": "algebra", "strict_break": "algebra", "isotone_break": "algebra",
        "cancelling_break": "algebra", "constant_break": "algebra", "even_break": "algebra", "does_deny": "algebra",
        "has_steps": "algebra", "lexicographic": "one other", "scoped": "one other", "united": "one other",
    },
    "networks": {
        "Network": {"labels": ""}, "routes_of": "network node", "route_value": "network route",
        "best_level": "network node", "choice": "network node state", "stable_states": "network",
        "rounds": "network state", "quarrel": "algebra", "detour": "algebra", "greedy_state": "network",
    },
    "schedules": {"run": "network state schedule", "phases": "network schedule"},
    "choices": {
        "Choices": {"lists": "", "__eq__": "other"}, "taken": "choices node state", "stable_of": "choices",
        "wheel": "choices", "is_wheel": "choices value", "numbering": "choices", "is_numbering": "choices value",
        "settled": "choices", "choices_of": "network",
    },
    "choicetexts": {"write_choices": "choices", "read_choices": "text"},
    "storms": {"states_from": "choices state", "storm": "choices state", "is_storm": "choices state value"},
    "trades": {
        "Trade": {}, "is_paid": "trade path", "paid_paths": "trade node", "ring_of_customers": "trade",
        "trade_choices": "trade",
    },
    "spares": {
        "is_spare": "graph weights node neighbor goal", "is_node_spare": "graph weights node neighbor lost goal",
        "spares": "graph weights node goal", "remote_spares": "graph weights node neighbor goal",
        "distance_without": "graph weights one other node goal", "by_two": "graph weights one other node goal",
    },
    "updates": {
        "ring_of_round": "old new done now", "depth_rounds": "old new", "least_rounds": "old new",
        "bypass_of_round": "old new done now start guard", "guarded_rounds": "old new start guard",
    },
    "tables": {
        "lookup": "width rules address", "first_gap": "width one other", "blocks": "width rules",
        "least_rules": "width rules", "walk": "width tables node address", "first_ring": "width tables",
        "reach": "width tables node goal", "atoms": "width tables",
    },
    "policies": {
        "Policy": {"apply": "record"}, "write_policy": "policy", "first_unlike": "one other", "idle_clauses": "policy",
        "joined": "one other", "algebra_of": "policies", "record_of": "number",
    },
    "fronts": {
        "front": "graph costs node goal", "front_path": "graph costs node goal pair",
        "least_within": "graph costs node goal bound",
    },
    "reports": {
        "Reports": {
            "renew": "", "tell": "node neighbor", "choose": "node", "fail": "node neighbor",
            "weigh": "node neighbor weight", "route": "node", "limit": "node", "walk": "node",
        },
    },
    "stacks": {
        "run": "rules node stack numbers", "drains": "rules node label", "drain_run": "rules node stack end",
        "visit_run": "rules node stack goal", "ring_run": "rules node stack",
    },
    "segments": {"led": "graph weights node segments", "least_segments": "graph weights path"},
    "shares": {
        "shares": "graph weights node goal", "shares_at": "graph weights node goal place",
        "loads": "graph weights demands",
    },
    "bridges": {
        "Bridges": {"belief": "bridge", "tell": "bridge neighbor", "is_quiet": "", "tree": ""},
        "least_tree": "graph weights",
    },
    "floods": {
        "Flood": {"state": "node arcs", "tell": "node neighbor", "records": "node", "view": "node", "is_known": ""},
    },
    "disjoint": {
        "disjoint_paths": "graph node goal", "least_disjoint": "graph weights node goal many",
        "nearest_many": "graph weights node goal many",
    },
    "labs": {"Lab": {"run": "line", "undo": "", "redo": "", "current": "", "steps": ""}, "replayed": "text"},
}

# L2: what may be imported from the library.
LIBRARY = {
    "heapq": {"heappush", "heappop", "heapify", "heapreplace", "heappushpop"},
    "math": {"gcd", "lcm", "isqrt", "comb", "perm", "factorial"},
    "itertools": {"product", "combinations", "permutations"},
}
# L8, L9: the builtins that may be used.
BUILTINS = set(
    "len range enumerate zip min max sum abs sorted reversed int str bool bytes list tuple dict set isinstance ord repr"
    " any all divmod iter next map super property staticmethod classmethod ValueError KeyError NotImplemented".split()
)
# L25: the methods of builtin values that may be called.
METHODS = set(
    "append clear copy count endswith extend find get index insert isalnum isalpha isdigit islower isspace isupper"
    " items join keys ljust lower lstrip partition pop remove replace reverse rfind rjust rpartition rsplit rstrip"
    " setdefault split splitlines startswith strip update upper values zfill bit_length sort add discard"
    " title capitalize swapcase casefold center removeprefix removesuffix rindex isascii isdecimal isnumeric".split()
)
# L17: names that are not used.
BARRED = set(
    "register mro elements open input law version_info with_traceback add_note attrgetter breakpoint builtins compile"
    " copyright credits delattr dir eval exec exit gc getattr globals hasattr help id importlib license locals"
    " methodcaller os quit setattr type vars typing enum Enum Flag Generic Protocol ABC namedtuple dataclass".split()
)
STATEMENTS = (
    ast.Assign, ast.AugAssign, ast.If, ast.While, ast.For, ast.Return, ast.Break, ast.Continue, ast.Pass, ast.Raise,
    ast.Assert, ast.Delete, ast.Try, ast.Expr, ast.FunctionDef, ast.ClassDef, ast.ImportFrom,
)
EXPRESSIONS_NOT_USED = (
    ast.GeneratorExp, ast.Await, ast.Yield, ast.YieldFrom, ast.NamedExpr, ast.Div, ast.MatMult, ast.Set,
)


def nodes_of(kind):
    for name, tree in TREES.items():
        for node in ast.walk(tree):
            if isinstance(node, kind):
                yield name, node


# L23: what may be given a zip, an enumerate and the like.
ITERATING = ["list", "tuple", "dict", "sorted", "sum", "any", "all", "enumerate", "zip", "min", "max"]


def calls_with_parents():
    for name, parent in nodes_of(ast.AST):
        for node in ast.iter_child_nodes(parent):
            if isinstance(node, ast.Call):
                yield name, node, parent


def bound_names(tree):
    """All names that a file gives a meaning, but those of methods and attributes."""
    methods = [part for node in ast.walk(tree) if isinstance(node, ast.ClassDef) for part in node.body]
    for node in ast.walk(tree):
        if isinstance(node, (ast.FunctionDef, ast.ClassDef)) and node not in methods:
            yield node.name
        elif isinstance(node, ast.arg):
            yield node.arg
        elif isinstance(node, ast.Name) and isinstance(node.ctx, ast.Store):
            yield node.id


class FilesTest(unittest.TestCase):
    def test_only_python_files(self):
        names = [path.name for path in FOLDER.iterdir() if path.name != "__pycache__"]
        self.assertEqual(sorted(names), [path.name for path in FILES])
        self.assertIn("__init__.py", names)

    def test_lines_and_characters(self):
        for path in FILES:
            text = path.read_text("ascii")
            lines = text.split("\n")
            self.assertLess(len(lines), 400, path.name)
            self.assertLessEqual(max(len(line) for line in lines), 120, path.name)
            self.assertTrue(all(" " <= letter <= "~" for line in lines for letter in line), path.name)

    def test_functions_are_small(self):
        for name, node in nodes_of(ast.FunctionDef):
            self.assertLessEqual(node.end_lineno - node.lineno + 1, 40, (name, node.name))

    def test_imports(self):
        for name, node in nodes_of((ast.Import, ast.ImportFrom)):
            self.assertIsInstance(node, ast.ImportFrom, name)
            self.assertEqual(node.level, 0, name)
            for part in node.names:
                self.assertIsNone(part.asname, name)
                if node.module in LIBRARY:
                    self.assertIn(part.name, LIBRARY[node.module], name)
                else:
                    self.assertTrue(node.module.startswith("routeweb."), (name, node.module))
                    defined = TREES[node.module.removeprefix("routeweb.")].body
                    names = [item.name for item in defined if isinstance(item, (ast.FunctionDef, ast.ClassDef))]
                    names += [item.targets[0].id for item in defined if isinstance(item, ast.Assign)]
                    self.assertIn(part.name, names, name)

    def test_no_rings_of_imports(self):
        left = {
            name: {node.module.removeprefix("routeweb.") for node in ast.walk(tree) if isinstance(node, ast.ImportFrom)}
            for name, tree in TREES.items()
        }
        while left:
            free = [name for name in left if not left[name] & set(left)]
            self.assertTrue(free, left)
            for name in free:
                del left[name]

    def test_imports_are_used(self):
        for name, tree in TREES.items():
            used = {node.id for node in ast.walk(tree) if isinstance(node, ast.Name)}
            for node in ast.walk(tree):
                if isinstance(node, ast.ImportFrom):
                    self.assertEqual([part.name for part in node.names if part.name not in used], [], name)

    def test_module_level(self):
        allowed = (ast.ImportFrom, ast.FunctionDef, ast.ClassDef, ast.Assign, ast.Expr)
        for name, tree in TREES.items():
            for node in tree.body:
                self.assertIsInstance(node, allowed, name)
                if isinstance(node, ast.Expr):
                    self.assertIs(node, tree.body[0], name)


class CodeTest(unittest.TestCase):
    def test_statements(self):
        for name, node in nodes_of(ast.stmt):
            self.assertIsInstance(node, STATEMENTS, (name, node.lineno))
        for name, node in nodes_of(EXPRESSIONS_NOT_USED):
            self.fail((name, node))

    def test_no_stars_in_indexes(self):
        # L7: neither where an item or a slice is read, nor where it is a target.
        for name, node in nodes_of(ast.Subscript):
            starred = [part for part in ast.walk(node.slice) if isinstance(part, ast.Starred)]
            self.assertEqual(starred, [], (name, node.lineno))

    def test_iterated_at_once(self):
        # L23: a range may also be kept by a name, tested with in, and given to len.
        for name, node, parent in calls_with_parents():
            called = getattr(node.func, "id", getattr(node.func, "attr", None))
            if called not in ("zip", "enumerate", "reversed", "range", "items", "keys", "values"):
                continue
            takers = [*ITERATING, "len"] if called == "range" else ITERATING
            by_loop = isinstance(parent, (ast.For, ast.comprehension)) and parent.iter is node
            by_call = isinstance(parent, ast.Call) and getattr(parent.func, "id", None) in takers
            kept = called == "range" and isinstance(parent, ast.Assign)
            self.assertTrue(by_loop or by_call or kept, (name, node.lineno))

    def test_sets(self):
        # L24: the package stores no set, and does not iterate over one.
        for name, node, parent in calls_with_parents():
            if getattr(node.func, "id", None) == "set":
                by_call = isinstance(parent, ast.Call) and getattr(parent.func, "id", None) in ("sorted", "len")
                self.assertTrue(by_call, (name, node.lineno))
        for name, node in nodes_of(ast.SetComp):
            self.fail((name, node.lineno))

    def test_library_calls(self):
        # L2: what combines rows is iterated by a loop or a comprehension, without keywords.
        for name, node, parent in calls_with_parents():
            if getattr(node.func, "id", None) in LIBRARY["itertools"]:
                self.assertIsInstance(parent, (ast.For, ast.comprehension), (name, node.lineno))
                self.assertEqual(node.keywords, [], (name, node.lineno))

    def test_library_names(self):
        # L2: they are only called, with all arguments by position, and not kept or passed on.
        names = [part for parts in LIBRARY.values() for part in parts]
        called = [node.func for _, node in nodes_of(ast.Call) if not node.keywords]
        for name, node in nodes_of(ast.Name):
            if node.id in names:
                self.assertIn(node, called, (name, node.lineno))

    def test_decorators(self):
        for name, node in nodes_of((ast.FunctionDef, ast.ClassDef)):
            self.assertIn([ast.unparse(item) for item in node.decorator_list], ([], ["property"]), (name, node.name))

    def test_names(self):
        for name, tree in TREES.items():
            imported = [part.name for node in ast.walk(tree) if isinstance(node, ast.ImportFrom) for part in node.names]
            for bound in bound_names(tree):
                self.assertFalse(hasattr(builtins, bound), (name, bound))
                self.assertNotIn(bound, imported, name)
            for node in ast.walk(tree):
                if isinstance(node, ast.Name) and hasattr(builtins, node.id):
                    self.assertIn(node.id, BUILTINS, (name, node.lineno))

    def test_barred_names(self):
        for name, node in nodes_of((ast.Name, ast.arg, ast.Attribute, ast.FunctionDef, ast.ClassDef, ast.keyword)):
            for field in ("id", "arg", "attr", "name"):
                self.assertNotIn(getattr(node, field, None), BARRED, (name, node.lineno))

    def test_methods(self):
        own = {part.name for _, node in nodes_of(ast.ClassDef) for part in node.body if hasattr(part, "name")}
        for name, node in nodes_of(ast.Call):
            if isinstance(node.func, ast.Attribute):
                self.assertIn(node.func.attr, METHODS | own, (name, node.lineno))

    def test_double_underscore_methods(self):
        for name, node in nodes_of(ast.FunctionDef):
            if node.name.startswith("__"):
                self.assertIn(node.name, ("__init__", "__eq__", "__repr__", "__str__", "__len__"), name)

    def test_constants(self):
        for name, node in nodes_of(ast.Constant):
            self.assertIsInstance(node.value, (int, str, type(None)), (name, node.lineno))
            if isinstance(node.value, str):
                self.assertNotIn("%", node.value, (name, node.lineno))

    def test_is_only_with_none(self):
        for name, node in nodes_of(ast.Compare):
            for sign, other in zip(node.ops, node.comparators):
                if isinstance(sign, (ast.Is, ast.IsNot)):
                    self.assertIn(ast.unparse(other), ("None", "True", "False"), (name, node.lineno))


# The arguments of the classes of the interface.
CREATED = {
    "Graph": "size arcs", "Algebra": "levels functions", "Network": "algebra ends size labels", "Choices": "lists",
    "Trade": "size customers peers", "Policy": "text", "Reports": "graph weights",
    "Bridges": "graph weights", "Flood": "size", "Lab": "",
}


class InterfaceTest(unittest.TestCase):
    def test_arguments_of_classes(self):
        defined = {node.name: node for _, node in nodes_of(ast.ClassDef)}
        for name, wanted in CREATED.items():
            created = [part for part in defined[name].body if getattr(part, "name", "") == "__init__"]
            self.assertEqual([part.arg for part in created[0].args.args], ["self", *wanted.split()], name)

    def test_names_and_arguments(self):
        for file, listed in INTERFACE.items():
            defined = {node.name: node for node in TREES[file].body if hasattr(node, "name")}
            for name, wanted in listed.items():
                self.assertIn(name, defined, file)
                if isinstance(wanted, str):
                    self.assertEqual([part.arg for part in defined[name].args.args], wanted.split(), name)
                else:
                    methods = {part.name: part for part in defined[name].body if hasattr(part, "name")}
                    for method, arguments in wanted.items():
                        self.assertIn(method, methods, name)
                        found = [part.arg for part in methods[method].args.args]
                        self.assertEqual(found, ["self", *arguments.split()], (name, method))


if __name__ == "__main__":
    unittest.main()
