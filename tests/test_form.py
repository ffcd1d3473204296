"""The form of the package: some of the rules of LANGUAGE.md that can be read off the code."""

import ast
import unittest
from pathlib import Path

PACKAGE = Path(__file__).resolve().parent.parent / "forkedshelves"
FILES = sorted(PACKAGE.rglob("*.py"))
LIBRARY = {
    "heapq": {"heappush", "heappop", "heapify", "heapreplace", "heappushpop"},
    "math": {"gcd", "lcm", "isqrt", "comb", "perm", "factorial"},
    "itertools": {"product", "combinations", "permutations", "chain", "accumulate", "pairwise", "islice",
                  "zip_longest"},
    "collections": {"defaultdict"},
    "__future__": {"annotations"},
}
BARRED_STATEMENTS = (ast.Global, ast.AsyncFunctionDef, ast.AsyncFor, ast.AsyncWith, ast.Await, ast.Div)
DUNDERS = {
    "__init__", "__eq__", "__repr__", "__str__", "__enter__", "__exit__", "__call__", "__iter__", "__contains__",
    "__or__", "__and__", "__sub__", "__add__", "__lt__", "__le__", "__gt__", "__ge__", "__ne__", "__bool__", "__len__",
}
BUILTINS = {
    "len", "range", "enumerate", "zip", "min", "max", "sum", "abs", "sorted", "reversed", "int", "str", "bool", "list",
    "tuple", "dict", "set", "frozenset", "isinstance", "ord", "repr", "any", "all", "divmod", "pow", "getattr",
    "hasattr", "setattr", "iter", "next", "map", "super", "property", "staticmethod", "classmethod", "object",
    "Exception", "ValueError", "TypeError", "KeyError", "IndexError", "LookupError", "ZeroDivisionError",
    "ArithmeticError", "OverflowError", "RuntimeError", "NotImplementedError", "AttributeError", "StopIteration",
    "NotImplemented",
}

BUILTIN_METHODS = {name for kind in (str, int, list, dict, set, bytes, tuple) for name in dir(kind)}
ALLOWED_METHODS = set(
    "append clear copy count endswith extend find get index insert isalnum isalpha isdigit islower isspace isupper items "
    "join keys ljust lower lstrip partition pop remove replace reverse rfind rjust rpartition rsplit rstrip setdefault "
    "split splitlines startswith strip update upper values zfill bit_length isascii isdecimal sort add discard".split())
TAKE_ITERATORS = {"list", "tuple", "dict", "sum", "min", "max", "any", "all", "enumerate", "zip", "sorted"}


def trees():
    return [(path, ast.parse(path.read_text(encoding="utf-8"))) for path in FILES]


def defined_in(path):
    """The names that a file defines itself."""
    body = ast.parse(path.read_text(encoding="utf-8")).body
    names = {item.name for item in body if isinstance(item, (ast.FunctionDef, ast.ClassDef))}
    return names | {name.id for item in body if isinstance(item, ast.Assign) for name in item.targets}


class FormTest(unittest.TestCase):
    def test_the_folder_contains_python_files_only(self):
        others = [path.name for path in PACKAGE.iterdir() if path.suffix != ".py" and path.name != "__pycache__"]
        self.assertEqual(others, [])
        self.assertTrue((PACKAGE / "__init__.py").exists())
        self.assertLessEqual(len(FILES), 100)

    def test_characters_lines_and_sizes(self):
        for path in FILES:
            text = path.read_bytes().decode("ascii")
            self.assertTrue(all(sign == "\n" or " " <= sign <= "~" for sign in text), path.name)
            lines = text.splitlines()
            self.assertLessEqual(len(lines), 399, path.name)
            self.assertLessEqual(max([len(line) for line in lines], default=0), 120, path.name)

    def test_functions_are_short(self):
        for path, tree in trees():
            for node in ast.walk(tree):
                if isinstance(node, ast.FunctionDef):
                    self.assertLessEqual(node.end_lineno - node.lineno + 1, 40, f"{path.name}: {node.name}")

    def test_imports(self):
        for path, tree in trees():
            for node in ast.walk(tree):
                self.assertNotIsInstance(node, ast.Import, path.name)
                if isinstance(node, ast.ImportFrom):
                    self.assertIn(node, tree.body, path.name)
                    self.assertEqual(node.level, 0, path.name)
                    names = {alias.name for alias in node.names}
                    if node.module.startswith("forkedshelves."):
                        file = PACKAGE / f"{node.module.split('.', 1)[1]}.py"
                        self.assertLessEqual(names, defined_in(file), path.name)
                    else:
                        self.assertLessEqual(names, LIBRARY[node.module], path.name)

    def test_no_two_files_import_from_each_other(self):
        wanted = {path.stem: {node.module.split(".")[1] for node in tree.body
                              if isinstance(node, ast.ImportFrom) and node.module.startswith("forkedshelves.")}
                  for path, tree in trees()}
        while wanted:
            free = [name for name, others in wanted.items() if not others & set(wanted)]
            self.assertTrue(free, f"a ring of imports: {sorted(wanted)}")
            wanted = {name: others for name, others in wanted.items() if name not in free}

    def test_statements_and_values(self):
        for path, tree in trees():
            for node in ast.walk(tree):
                where = f"{path.name}: {getattr(node, 'lineno', 0)}"
                self.assertNotIsInstance(node, BARRED_STATEMENTS, where)
                if isinstance(node, ast.Constant):
                    self.assertNotIsInstance(node.value, (float, complex), where)
                if isinstance(node, ast.ClassDef):
                    self.assertEqual(node.decorator_list, [], where)
                    methods = [item.name for item in node.body if isinstance(item, ast.FunctionDef)]
                    self.assertLessEqual({name for name in methods if name.startswith("__")}, DUNDERS, where)

    def test_module_level_holds_definitions_only(self):
        kinds = (ast.ImportFrom, ast.FunctionDef, ast.ClassDef, ast.Assign)
        for path, tree in trees():
            for node in tree.body:
                docstring = isinstance(node, ast.Expr) and isinstance(node.value, ast.Constant)
                self.assertTrue(docstring or isinstance(node, kinds), f"{path.name}: {node.lineno}")

    def test_builtins_are_those_of_the_subset(self):
        import builtins
        for path, tree in trees():
            for node in ast.walk(tree):
                if isinstance(node, ast.Name) and hasattr(builtins, node.id):
                    self.assertIn(node.id, BUILTINS, f"{path.name}: {node.lineno}")
                    self.assertIsInstance(node.ctx, ast.Load, f"{path.name}: {node.lineno}")

    def test_names_inside_functions_are_not_those_of_classes_and_imports(self):
        import builtins
        for path, tree in trees():
            taken = {alias.name for node in tree.body if isinstance(node, ast.ImportFrom) for alias in node.names}
            taken |= {node.name for node in tree.body if isinstance(node, ast.ClassDef)}
            for node in ast.walk(tree):
                if isinstance(node, ast.FunctionDef):
                    names = {arg.arg for arg in [*node.args.args, *node.args.kwonlyargs]}
                    names |= {name.id for name in ast.walk(node)
                              if isinstance(name, ast.Name) and isinstance(name.ctx, ast.Store)}
                    where = f"{path.name}: {node.name}"
                    self.assertEqual(names & taken, set(), where)
                    self.assertEqual([name for name in names if hasattr(builtins, name)], [], where)

    def test_methods_that_are_called(self):
        own, stored, called = set(), set(), set()
        for _, tree in trees():
            for node in ast.walk(tree):
                if isinstance(node, ast.ClassDef):
                    own |= {item.name for item in node.body if isinstance(item, ast.FunctionDef)}
                if isinstance(node, ast.Attribute) and isinstance(node.ctx, ast.Store):
                    stored.add(node.attr)
                if isinstance(node, ast.Call) and isinstance(node.func, ast.Attribute):
                    called.add(node.func.attr)
        self.assertLessEqual(called, own | ALLOWED_METHODS | {"__init__"})
        self.assertEqual({name for name in own | stored if name in BUILTIN_METHODS and name not in DUNDERS}, set())
        self.assertEqual(own & stored, set())

    def test_sets_and_generator_expressions_are_used_at_once(self):
        for path, tree in trees():
            above = {child: node for node in ast.walk(tree) for child in ast.iter_child_nodes(node)}
            for node in ast.walk(tree):
                user = above.get(node)
                called = getattr(getattr(node, "func", None), "id", None)
                if isinstance(node, (ast.Set, ast.SetComp)) or called == "set":
                    while isinstance(user, ast.BinOp):
                        user = above[user]
                    name = getattr(getattr(user, "func", None), "id", None)
                    self.assertTrue(isinstance(user, (ast.Assign, ast.Compare)) or name in ("sorted", "len"),
                                    f"{path.name}: {node.lineno}")
                name = getattr(getattr(user, "func", None), "id", None)
                if isinstance(node, ast.GeneratorExp):
                    self.assertIn(name, TAKE_ITERATORS - {"sorted", "enumerate", "zip"}, f"{path.name}: {node.lineno}")
                if called in ("zip", "enumerate", "reversed"):
                    self.assertTrue(isinstance(user, (ast.For, ast.comprehension)) or name in TAKE_ITERATORS,
                                    f"{path.name}: {node.lineno}")

    def test_errors_are_created_where_they_are_raised(self):
        for path, tree in trees():
            for node in ast.walk(tree):
                if isinstance(node, ast.Raise) and node.exc is not None:
                    self.assertIsInstance(node.exc, ast.Call, f"{path.name}: {node.lineno}")


if __name__ == "__main__":
    unittest.main()
