"""Tests that the package keeps to the subset of Python that it is written in, where a test can see it."""

import ast
import builtins
import pathlib
import unittest

PACKAGE = pathlib.Path(__file__).resolve().parent.parent / "oldletters"
FILES = sorted(PACKAGE.glob("*.py"))
LIBRARY = {"itertools": {"combinations"}}
BUILTINS = set("len range enumerate zip min max sum abs sorted reversed int str bool list tuple dict set isinstance "
               "repr any all divmod ValueError".split())
METHODS = set("append clear copy count endswith extend find get index insert items join keys lstrip partition pop "
              "remove replace reverse rfind rpartition rstrip setdefault split startswith strip update values add "
              "discard".split())
KEYWORDS = {("sorted", "key"), ("sorted", "reverse"), ("min", "key"), ("max", "key"), ("min", "default"),
            ("max", "default"), ("enumerate", "start"), ("sum", "start")}
DOUBLE = {"__init__", "__eq__"}
BARRED = set("register mro elements open input law version_info with_traceback add_note attrgetter breakpoint compile "
             "copyright delattr dir eval exec exit gc getattr globals hasattr help id importlib license locals "
             "methodcaller os quit setattr super type vars sys typing enum Generic Protocol namedtuple chr map "
             "iter next".split())
NODES = set("""Module Expr Constant ImportFrom alias FunctionDef arguments arg ClassDef Assign AugAssign Name Load Store
    Attribute Call keyword If While For Return Raise Try ExceptHandler Compare BoolOp And Or UnaryOp Not USub BinOp Add
    Sub Mult FloorDiv Mod Eq NotEq Lt LtE Gt GtE Is IsNot In NotIn IfExp List Tuple Dict ListComp DictComp SetComp Set
    comprehension Subscript Slice JoinedStr FormattedValue Lambda Starred Break Continue Pass Assert""".split())


def trees():
    return {path: ast.parse(path.read_text()) for path in FILES}


def bound_names(tree):
    """Return the names that parameters, assignments and loops bind below a node."""
    names = [node.arg for node in ast.walk(tree) if isinstance(node, ast.arg)]
    return names + [node.id for node in ast.walk(tree)
                    if isinstance(node, ast.Name) and isinstance(node.ctx, ast.Store)]


def is_call_of(node, *names):
    return isinstance(node, ast.Call) and isinstance(node.func, ast.Name) and node.func.id in names


def is_set(node):
    return isinstance(node, (ast.Set, ast.SetComp)) or is_call_of(node, "set")


class Language(unittest.TestCase):
    def test_files(self):
        self.assertGreaterEqual(len(FILES), 35)
        others = [path for path in PACKAGE.iterdir() if path.suffix != ".py" and path.name != "__pycache__"]
        self.assertEqual(others, [])
        for path in FILES:
            self.assertRegex(path.name, r"^[a-z_][a-z0-9_]*\.py$")
            rows = path.read_text().split("\n")
            self.assertLess(len(rows) - 1, 400, path)
            for row in rows:
                self.assertTrue(len(row) <= 120 and all(" " <= sign <= "~" for sign in row), (path, row))

    def test_nodes_and_sizes(self):
        for path, tree in trees().items():
            for node in ast.walk(tree):
                self.assertIn(type(node).__name__, NODES, (path, getattr(node, "lineno", 0)))
                if isinstance(node, ast.FunctionDef):
                    self.assertLessEqual(node.end_lineno - node.lineno + 1, 40, node.name)
                    self.assertIsNotNone(ast.get_docstring(node) or node.name.startswith("__") or None, node.name)
                    self.assertEqual(node.decorator_list, [])
                    self.assertIsNone(node.returns)
                if isinstance(node, ast.Constant):
                    self.assertIn(type(node.value), (int, str, bool, type(None)))
                    self.assertNotIn("%", str(node.value))

    def test_module_level(self):
        for path, tree in trees().items():
            self.assertIsNotNone(ast.get_docstring(tree), path)
            for node in tree.body[1:]:
                self.assertIsInstance(node, (ast.ImportFrom, ast.FunctionDef, ast.ClassDef, ast.Assign))
                if isinstance(node, ast.Assign):
                    self.assertTrue(len(node.targets) == 1 and isinstance(node.targets[0], ast.Name))
                    ast.literal_eval(node.value)

    def test_imports(self):
        graph = {}
        for path, tree in trees().items():
            graph[path.stem] = []
            for node in ast.walk(tree):
                if isinstance(node, ast.ImportFrom):
                    self.assertIn(node, tree.body)
                    names = [alias.name for alias in node.names]
                    self.assertTrue(all(alias.asname is None for alias in node.names))
                    if node.module in LIBRARY:
                        self.assertLessEqual(set(names), LIBRARY[node.module])
                        continue
                    package, module = node.module.split(".")
                    self.assertEqual((package, node.level), ("oldletters", 0))
                    other = ast.parse((PACKAGE / (module + ".py")).read_text())
                    defined = {one.name for one in other.body if isinstance(one, (ast.FunctionDef, ast.ClassDef))}
                    self.assertLessEqual(set(names), defined)
                    graph[path.stem].append(module)
                    used = {one.id for one in ast.walk(tree) if isinstance(one, ast.Name)}
                    self.assertLessEqual(set(names), used, path)
        while graph:
            free = [name for name, needed in graph.items() if not set(needed) & set(graph)]
            self.assertTrue(free, graph)
            for name in free:
                del graph[name]

    def test_names(self):
        for path, tree in trees().items():
            outer = [alias.name for node in tree.body if isinstance(node, ast.ImportFrom) for alias in node.names]
            outer += [node.name for node in tree.body if isinstance(node, (ast.ClassDef, ast.FunctionDef))]
            outer += [node.targets[0].id for node in tree.body if isinstance(node, ast.Assign)]
            self.assertEqual(len(set(outer)), len(outer), path)
            for node in tree.body:
                inner = bound_names(node) if isinstance(node, (ast.FunctionDef, ast.ClassDef)) else []
                self.assertFalse(set(inner) & set(outer), (path, set(inner) & set(outer)))
                for name in inner + outer:
                    # Doctests leave a builtin called _.
                    self.assertFalse(name != "_" and hasattr(builtins, name) or name in BARRED, (path, name))
                    self.assertNotRegex(name, r"^__|^_wall|^_pe_|^_dcw_|^_enum_|^_cm_|^_lay_|^_law_|^_stub_|^_sre")
            for node in ast.walk(tree):
                if isinstance(node, ast.Name) and isinstance(node.ctx, ast.Load):
                    self.assertNotEqual(node.id, "_", path)
                    if hasattr(builtins, node.id):
                        self.assertIn(node.id, BUILTINS, path)

    def test_calls_and_attributes(self):
        package = trees()
        classes = [node for tree in package.values() for node in tree.body if isinstance(node, ast.ClassDef)]
        methods = {one.name for node in classes for one in node.body if isinstance(one, ast.FunctionDef)}
        stored = {node.attr for tree in package.values() for node in ast.walk(tree)
                  if isinstance(node, ast.Attribute) and isinstance(node.ctx, ast.Store)}
        self.assertFalse(stored & methods)
        self.assertFalse((stored | methods) & (METHODS - {"index", "count"}), "no name of a builtin value's method")
        for path, tree in package.items():
            called = [node.func for node in ast.walk(tree) if isinstance(node, ast.Call)]
            for node in ast.walk(tree):
                if isinstance(node, ast.Attribute):
                    self.assertIn(node.attr, (methods | METHODS) if node in called else stored, path)
                if isinstance(node, ast.Call):
                    for keyword in node.keywords:
                        self.assertIn((getattr(node.func, "id", None), keyword.arg), KEYWORDS, path)
                    self.assertFalse([one for one in node.args if isinstance(one, ast.Starred)])
                if isinstance(node, ast.ClassDef):
                    for one in node.body[1:]:
                        self.assertIsInstance(one, ast.FunctionDef)
                        self.assertTrue(not one.name.startswith("__") or one.name in DOUBLE)

    def test_errors(self):
        own = {node.name for node in trees()[PACKAGE / "errors.py"].body if isinstance(node, ast.ClassDef)}
        for path, tree in trees().items():
            for node in ast.walk(tree):
                if isinstance(node, ast.Raise):
                    self.assertTrue(is_call_of(node.exc, *own) and node.cause is None, path)
                if isinstance(node, ast.ExceptHandler):
                    self.assertIn(node.type.id, own)

    def test_sets_and_iterators(self):
        for path, tree in trees().items():
            parents = {child: node for node in ast.walk(tree) for child in ast.iter_child_nodes(node)}
            for node in ast.walk(tree):
                if is_set(node):
                    above = parents[node]
                    stored = isinstance(above, ast.Assign) and isinstance(above.targets[0], ast.Name)
                    compared = isinstance(above, ast.Compare) and node is not above.left
                    self.assertTrue(stored or compared or is_call_of(above, "sorted", "len"), (path, node.lineno))
                    if stored:
                        self.check_stored_set(tree, parents, above.targets[0].id, node.lineno)
                if is_call_of(node, "zip", "enumerate", "reversed", "combinations"):
                    above = parents[node]
                    looped = isinstance(above, (ast.For, ast.comprehension)) and above.iter is node
                    taken = is_call_of(above, "list", "tuple", "sorted", "sum", "dict", "enumerate", "zip")
                    self.assertTrue(looped or taken, (path, node.lineno))

    def check_stored_set(self, tree, parents, name, line):
        function = [node for node in ast.walk(tree) if isinstance(node, ast.FunctionDef)
                    and node.lineno <= line <= node.end_lineno][-1]
        assigned = 0
        for node in ast.walk(function):
            if isinstance(node, ast.Name) and node.id == name:
                above = parents[node]
                assigned += isinstance(node.ctx, ast.Store)
                changed = isinstance(above, ast.Attribute) and above.attr in ("add", "discard")
                asked = isinstance(above, ast.Compare) and node is not above.left
                self.assertTrue(isinstance(node.ctx, ast.Store) or changed or asked
                                or is_call_of(above, "sorted", "len"), (name, node.lineno))
        self.assertEqual(assigned, 1)

    def test_loops_leave_what_they_go_over(self):
        for path, tree in trees().items():
            for loop in [node for node in ast.walk(tree) if isinstance(node, ast.For)]:
                over = {ast.dump(node) for node in ast.walk(loop.iter) if isinstance(node, (ast.Name, ast.Attribute))}
                for node in [one for statement in loop.body for one in ast.walk(statement)]:
                    if isinstance(node, ast.Call) and isinstance(node.func, ast.Attribute):
                        if node.func.attr in ("append", "pop", "extend", "add", "clear", "insert", "remove", "reverse"):
                            self.assertNotIn(ast.dump(node.func.value), over, (path, node.lineno))
                    if isinstance(node, ast.Subscript) and isinstance(node.ctx, ast.Store):
                        self.assertNotIn(ast.dump(node.value).replace("Store()", "Load()"), over, (path, node.lineno))


if __name__ == "__main__":
    unittest.main()
