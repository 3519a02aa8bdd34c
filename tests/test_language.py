"""What the files of the package keep to: sizes, signs, imports and builtins."""

import ast
import builtins
import pathlib
import unittest

PACKAGE = pathlib.Path(__file__).resolve().parent.parent / "tatamirooms"
BUILTINS = set(
    "len range enumerate zip min max sum abs sorted reversed int str bool list tuple dict set isinstance ord repr any "
    "all divmod LookupError ValueError".split())
# What is run at a prompt, as the examples of the README are, may leave its last value behind as _.
KNOWN = set(dir(builtins)) - {"_"}
AT_ONCE = "list tuple dict sorted sum any all min max enumerate zip reversed".split()
NOT_USED = (ast.Global, ast.AsyncFunctionDef, ast.Try, ast.Lambda, ast.GeneratorExp, ast.Yield, ast.Pow, ast.Div)


def trees():
    for path in sorted(PACKAGE.glob("*.py")):
        yield path, path.read_text(encoding="ascii"), ast.parse(path.read_text(encoding="ascii"))


def parents(tree):
    """The pairs of a node and the one that it stands in."""
    for above in ast.walk(tree):
        for node in ast.iter_child_nodes(above):
            yield node, above


def called(node):
    """The name of the function or the method that node calls; None if it is no call."""
    if not isinstance(node, ast.Call):
        return None
    return node.func.attr if isinstance(node.func, ast.Attribute) else getattr(node.func, "id", None)


class Language(unittest.TestCase):
    def test_sizes_and_signs(self):
        for path, text, tree in trees():
            with self.subTest(path=path.name):
                rows = text.split("\n")
                self.assertLessEqual(len(rows), 400)
                self.assertLessEqual(max(map(len, rows)), 120)
                self.assertTrue(all(" " <= sign <= "~" for row in rows for sign in row))
                for node in ast.walk(tree):
                    if isinstance(node, ast.FunctionDef):
                        self.assertLessEqual(node.end_lineno - node.lineno + 1, 40, node.name)

    def test_imports_are_of_the_package(self):
        for path, _, tree in trees():
            for node in ast.walk(tree):
                self.assertNotIsInstance(node, ast.Import)
                if isinstance(node, ast.ImportFrom) and node.module == "math":
                    self.assertEqual([(own.name, own.asname) for own in node.names], [("gcd", None)])
                elif isinstance(node, ast.ImportFrom):
                    with self.subTest(path=path.name, module=node.module):
                        self.assertEqual(node.level, 0)
                        self.assertTrue((PACKAGE / (node.module.removeprefix("tatamirooms.") + ".py")).exists())

    def test_names(self):
        for path, _, tree in trees():
            taken = {own.name for node in tree.body if isinstance(node, ast.ImportFrom) for own in node.names}
            for node in ast.walk(tree):
                with self.subTest(path=path.name, line=getattr(node, "lineno", 0)):
                    self.assertNotIsInstance(node, NOT_USED)
                    if isinstance(node, ast.Name) and isinstance(node.ctx, ast.Load) and node.id in KNOWN:
                        self.assertIn(node.id, BUILTINS)
                    if isinstance(node, ast.Name) and isinstance(node.ctx, ast.Store) or isinstance(node, ast.arg):
                        name = node.id if isinstance(node, ast.Name) else node.arg
                        self.assertNotIn(name, taken)
                        self.assertNotIn(name, KNOWN)

    def test_sets_and_what_is_iterated_stand_where_they_may(self):
        for path, _, tree in trees():
            for node, above in parents(tree):
                if isinstance(node, ast.SetComp) or called(node) == "set":
                    with self.subTest(path=path.name, line=node.lineno):
                        self.assertTrue(called(above) in ("sorted", "len") or isinstance(above, (ast.Compare, ast.BinOp)))
                if called(node) in ("zip", "enumerate", "reversed", "range", "items", "keys", "values", "map"):
                    with self.subTest(path=path.name, line=node.lineno):
                        self.assertTrue(
                            isinstance(above, (ast.For, ast.comprehension)) or called(above) in AT_ONCE, called(above))

    def test_stars_and_braces(self):
        for path, _, tree in trees():
            for node in ast.walk(tree):
                with self.subTest(path=path.name, line=getattr(node, "lineno", 0)):
                    if isinstance(node, ast.Call):
                        for own in node.args:
                            if isinstance(own, ast.Starred):
                                self.assertIsInstance(own.value, (ast.Name, ast.Attribute))
                        self.assertTrue(all(word.arg for word in node.keywords))
                    if isinstance(node, ast.Constant) and isinstance(node.value, str):
                        self.assertNotIn("%", node.value)
                    if isinstance(node, (ast.FunctionDef, ast.ClassDef)):
                        self.assertEqual(node.decorator_list, [])
                        self.assertIsNotNone(ast.get_docstring(node) or node.name == "__init__" or None, node.name)


if __name__ == "__main__":
    unittest.main()
