"""The form of the package's code, as far as a short test can see it (LANGUAGE.md)."""

import ast
import pathlib
import re
import unittest

PACKAGE = pathlib.Path(__file__).resolve().parent.parent / "merelylate"
BUILTINS = set(
    "len range enumerate zip min max sum abs sorted reversed int str bool bytes list tuple dict set frozenset "
    "isinstance ord repr any all divmod pow iter next map ValueError KeyError NotImplemented".split())
LIBRARY = {"heapq", "math", "itertools", "collections"}
BARRED_NAMES = {"register", "mro", "elements", "open", "input", "law", "version_info", "with_traceback", "add_note"}
BARRED_WORDS = re.compile(r"\b(type|typing|enum|Enum|Flag|Generic|Protocol|ABC|namedtuple|NamedTuple)\b|dataclass")
BARRED_NODES = (ast.Global, ast.AsyncFunctionDef, ast.Await, ast.AsyncFor, ast.AsyncWith, ast.Import, ast.Div)
MODULE_LEVEL = (ast.ImportFrom, ast.FunctionDef, ast.ClassDef, ast.Assign, ast.Expr)


def bound_names(tree):
    """All names that the code of a file gives to something."""
    for node in ast.walk(tree):
        if isinstance(node, ast.Name) and isinstance(node.ctx, ast.Store):
            yield node.id
        elif isinstance(node, ast.arg):
            yield node.arg
        elif isinstance(node, (ast.FunctionDef, ast.ClassDef)):
            yield node.name
        elif isinstance(node, ast.alias):
            yield node.asname or node.name


class FormTest(unittest.TestCase):

    def setUp(self):
        self.files = sorted(path for path in PACKAGE.iterdir() if path.name != "__pycache__")
        self.texts = {path.name: path.read_text(encoding="utf-8") for path in self.files}
        self.trees = {name: ast.parse(text) for name, text in self.texts.items()}

    def each_node(self):
        for name, tree in self.trees.items():
            for node in ast.walk(tree):
                yield f"{name}:{getattr(node, 'lineno', 0)}", node

    def test_files(self):
        self.assertIn("__init__.py", self.texts)
        for path in self.files:
            self.assertTrue(path.is_file() and re.fullmatch(r"[a-z0-9_]+\.py", path.name), path)

    def test_sizes_and_characters(self):
        for name, text in self.texts.items():
            lines = text.split("\n")
            self.assertLessEqual(len(lines), 400, name)
            self.assertLessEqual(max(len(line) for line in lines), 120, name)
            self.assertTrue(all(" " <= sign <= "~" for line in lines for sign in line), name)
        for place, node in self.each_node():
            if isinstance(node, ast.FunctionDef):
                self.assertLessEqual(node.end_lineno - node.lineno + 1, 40, place)

    def test_module_level(self):
        for name, tree in self.trees.items():
            for node in tree.body:
                self.assertIsInstance(node, MODULE_LEVEL, name)
                if isinstance(node, ast.Expr):
                    self.assertIsInstance(node.value, ast.Constant, name)

    def test_statements(self):
        for place, node in self.each_node():
            self.assertNotIsInstance(node, BARRED_NODES, place)
            self.assertFalse(isinstance(node, ast.Constant) and isinstance(node.value, float), place)
            if isinstance(node, (ast.FunctionDef, ast.ClassDef)):
                decorators = [ast.unparse(one) for one in node.decorator_list]
                self.assertLessEqual(set(decorators), {"property", "staticmethod", "classmethod"}, place)

    def test_imports(self):
        order = {}
        for place, node in self.each_node():
            if isinstance(node, ast.ImportFrom) and node.module not in LIBRARY:
                self.assertEqual(node.level, 0, place)
                package, name = node.module.split(".")
                self.assertEqual(package, "merelylate", place)
                defined = {one.name for one in self.trees[name + ".py"].body
                           if isinstance(one, (ast.FunctionDef, ast.ClassDef))}
                defined |= {target.id for one in self.trees[name + ".py"].body if isinstance(one, ast.Assign)
                            for target in one.targets}
                self.assertLessEqual({alias.name for alias in node.names}, defined, place)
                order.setdefault(place.split(":")[0], set()).add(name + ".py")
        while order:
            ready = {name for name in order if not order[name] & set(order)}
            self.assertTrue(ready, "files import each other")
            order = {name: order[name] for name in order if name not in ready}

    def test_names(self):
        every_builtin = set(dir(__builtins__) if not isinstance(__builtins__, dict) else __builtins__)
        for name, tree in self.trees.items():
            bound = set(bound_names(tree))
            self.assertFalse(bound & every_builtin, name)
            self.assertFalse(bound & BARRED_NAMES, name)
            read = {node.id for node in ast.walk(tree) if isinstance(node, ast.Name)}
            self.assertLessEqual(read - bound, BUILTINS | {"super", "property"}, name)

    def test_strings(self):
        for name, tree in self.trees.items():
            docstrings = {node.body[0].value for node in ast.walk(tree)
                          if isinstance(node, (ast.Module, ast.ClassDef, ast.FunctionDef))
                          and ast.get_docstring(node) is not None}
            for node in ast.walk(tree):
                if isinstance(node, ast.Constant) and isinstance(node.value, str):
                    self.assertNotIn("%", node.value, name)
                    if node not in docstrings:
                        self.assertIsNone(BARRED_WORDS.search(node.value), name)


if __name__ == "__main__":
    unittest.main()
