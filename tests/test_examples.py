"""Each example of the document, with what it must give, or the error with its values."""

import doctest
import importlib
import os
import unittest

from tatamirooms.desk import Desk
from tests.test_interface import INTERFACE


def examples():
    """The pairs (what is done, what must come of it), in order, with the names of all modules."""
    path = os.path.join(os.path.dirname(__file__), "examples.txt")
    with open(path, encoding="ascii") as text:
        rows = [row.rstrip("\n") for row in text]
    found = []
    for at, row in enumerate(rows):
        if row.startswith(">>> "):
            told = rows[at + 1] if at + 1 < len(rows) and not rows[at + 1].startswith((">>> ", "#")) else ""
            found.append((row[4:], told))
    return found


def names():
    """The functions of the interface, by their names."""
    found = {}
    for module, functions in INTERFACE.items():
        own = importlib.import_module("tatamirooms." + module)
        found.update({name: getattr(own, name) for name in functions})
    found["Desk"] = Desk
    return found


def outcome(work, known):
    """What work gives, or the error that it raises, told as the document does."""
    try:
        return eval(work, known)
    except (LookupError, ValueError) as raised:
        told = ", ".join(f"{name}={value!r}" for name, value in vars(raised).items())
        return f"raises {type(raised).__name__}({told})"


class Examples(unittest.TestCase):
    def test_each_example(self):
        known = names()
        asked = 0
        for work, told in examples():
            if not told:
                exec(work, known)
                continue
            with self.subTest(work=work):
                given = outcome(work, known)
                wanted = told if told.startswith("raises ") else eval(told, known)
                self.assertEqual(given, wanted)
                self.assertEqual(repr(given), repr(wanted))
                asked += 1
        self.assertEqual(asked, 195)

    def test_those_of_the_readme(self):
        path = os.path.join(os.path.dirname(os.path.dirname(os.path.abspath(__file__))), "README.md")
        found = doctest.testfile(path, module_relative=False)
        self.assertEqual((found.failed, found.attempted), (0, 12))


if __name__ == "__main__":
    unittest.main()
