"""The form of the package: sizes, characters, imports, and names that stay unused."""
import ast
import builtins
import os
import unittest

from tests.test_conventions import PACKAGE

BARRED = {"register", "mro", "elements", "open", "input", "law", "eval", "exec", "id", "type",
          "vars", "dir", "global", "compile", "help", "exit", "quit"}
NOT_STORED = {"items", "keys", "values", "pop", "update", "append", "clear", "extend", "insert",
              "remove", "reverse", "setdefault", "sort", "args", "encode", "decode", "hex",
              "format"}
LIBRARY = {"heapq": ("heappush", "heappop")}


def sources():
    """The texts of the files of the package by their names."""
    found = {}
    for name in sorted(os.listdir(PACKAGE)):
        if name == "__pycache__":
            continue
        with open(os.path.join(PACKAGE, name), encoding="utf-8") as file:
            found[name] = file.read()
    return found


class TestForm(unittest.TestCase):
    def test_files(self):
        for name, text in sources().items():
            self.assertTrue(name.endswith(".py"), name)
            self.assertLessEqual(text.count("\n"), 399, name)
            for at, line in enumerate(text.split("\n")):
                self.assertLessEqual(len(line), 120, (name, at + 1))
                self.assertTrue(all(" " <= sign <= "~" for sign in line), (name, at + 1))

    def test_functions(self):
        for name, text in sources().items():
            for node in ast.walk(ast.parse(text)):
                if isinstance(node, ast.FunctionDef):
                    self.assertLessEqual(node.end_lineno - node.lineno + 1, 40, (name, node.name))

    def test_imports(self):
        for name, text in sources().items():
            for node in ast.walk(ast.parse(text)):
                self.assertNotIsInstance(node, ast.Import, name)
                if isinstance(node, ast.ImportFrom):
                    self.assertEqual(node.level, 0, name)
                    library = LIBRARY.get(node.module, ())
                    self.assertTrue(node.module.startswith("crossheaps.")
                                    or all(part.name in library for part in node.names), name)
                    self.assertTrue(all(part.asname is None for part in node.names), name)

    def test_names(self):
        for name, text in sources().items():
            tree = ast.parse(text)
            bound = [node.name for node in tree.body
                     if isinstance(node, (ast.FunctionDef, ast.ClassDef))]
            for node in ast.walk(tree):
                if isinstance(node, ast.Name) and isinstance(node.ctx, ast.Store):
                    bound.append(node.id)
                if isinstance(node, ast.arg):
                    bound.append(node.arg)
                if isinstance(node, ast.Attribute) and isinstance(node.ctx, ast.Store):
                    self.assertNotIn(node.attr, NOT_STORED, (name, node.lineno))
            for word in bound:
                self.assertFalse(word in BARRED or hasattr(builtins, word), (name, word))

    def test_names_of_properties(self):
        """No attribute has the name of a property or of a generator."""
        trees = [ast.parse(text) for text in sources().values()]
        barred = {"run"}
        for tree in trees:
            barred |= {node.name for node in ast.walk(tree)
                       if isinstance(node, ast.FunctionDef) and node.decorator_list}
        self.assertIn("queue", barred)
        for tree in trees:
            for node in ast.walk(tree):
                if isinstance(node, ast.Attribute) and isinstance(node.ctx, ast.Store):
                    self.assertNotIn(node.attr, barred, node.lineno)

    def test_reversed(self):
        """Machine has __getitem__, so that reversed shows what it goes over."""
        for name, text in sources().items():
            for node in ast.walk(ast.parse(text)):
                if isinstance(node, ast.Call) and isinstance(node.func, ast.Name) \
                        and node.func.id == "reversed":
                    given = node.args[0]
                    shown = isinstance(given, (ast.List, ast.Tuple, ast.Constant)) or (
                        isinstance(given, ast.Call) and isinstance(given.func, ast.Name)
                        and given.func.id in ("list", "tuple", "sorted", "range"))
                    self.assertTrue(shown, (name, node.lineno))

    def test_statements(self):
        barred = (ast.Global, ast.Lambda, ast.Set, ast.SetComp, ast.GeneratorExp, ast.AnnAssign,
                  ast.Div, ast.AsyncFunctionDef, ast.With)
        for name, text in sources().items():
            for node in ast.walk(ast.parse(text)):
                self.assertNotIsInstance(node, barred, name)
                if isinstance(node, ast.Constant):
                    self.assertNotIsInstance(node.value, float, name)


if __name__ == "__main__":
    unittest.main()
