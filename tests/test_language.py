"""What the files of the package keep to: sizes, signs, imports and builtins."""

import ast
import builtins
import pathlib
import unittest

PACKAGE = pathlib.Path(__file__).resolve().parent.parent / "tatamirooms"
BUILTINS = set(
    "len range enumerate zip min max sum abs sorted reversed int str bool list tuple dict set isinstance ord repr any "
    "all divmod LookupError ValueError".split())
NOT_USED = (ast.Global, ast.AsyncFunctionDef, ast.Try, ast.Lambda, ast.GeneratorExp, ast.Yield, ast.Pow, ast.Div)


def trees():
    for path in sorted(PACKAGE.glob("*.py")):
        yield path, path.read_text(encoding="ascii"), ast.parse(path.read_text(encoding="ascii"))


class Language(unittest.TestCase):
    def test_sizes_and_signs(self):
        for path, text, tree in trees():
            with self.subTest(path=path.name):
                rows = text.split("\n")
                self.assertLessEqual(len(rows), 400)
                self.assertLessEqual(max(map(len, rows)), 120)
                self.assertTrue(all(" " <= sign <= "~" for row in rows for sign in row))
                for node in ast.walk(tree):
                    if isinstance(node, ast.FunctionDef):
                        self.assertLessEqual(node.end_lineno - node.lineno + 1, 40, node.name)

    def test_imports_are_of_the_package(self):
        for path, _, tree in trees():
            for node in ast.walk(tree):
                self.assertNotIsInstance(node, ast.Import)
                if isinstance(node, ast.ImportFrom):
                    with self.subTest(path=path.name, module=node.module):
                        self.assertEqual(node.level, 0)
                        self.assertTrue((PACKAGE / (node.module.removeprefix("tatamirooms.") + ".py")).exists())

    def test_names(self):
        for path, _, tree in trees():
            taken = {own.name for node in tree.body if isinstance(node, ast.ImportFrom) for own in node.names}
            for node in ast.walk(tree):
                with self.subTest(path=path.name, line=getattr(node, "lineno", 0)):
                    self.assertNotIsInstance(node, NOT_USED)
                    if isinstance(node, ast.Name) and isinstance(node.ctx, ast.Load) and hasattr(builtins, node.id):
                        self.assertIn(node.id, BUILTINS)
                    if isinstance(node, ast.Name) and isinstance(node.ctx, ast.Store) or isinstance(node, ast.arg):
                        name = node.id if isinstance(node, ast.Name) else node.arg
                        self.assertNotIn(name, taken)
                        self.assertFalse(hasattr(builtins, name), name)


if __name__ == "__main__":
    unittest.main()
