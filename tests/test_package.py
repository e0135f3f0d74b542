"""No clock, chance or files: the package draws on nothing but itself and a few of Python's own names."""

import ast
import builtins
import pathlib
import unittest

PACKAGE = pathlib.Path(__file__).resolve().parent.parent / "firetree"

OWN_NAMES = """
    len range enumerate zip min max sum abs sorted reversed int str bool list tuple dict set frozenset isinstance ord
    repr any all divmod Exception ValueError TypeError KeyError IndexError LookupError ZeroDivisionError
    ArithmeticError OverflowError RuntimeError NotImplementedError AttributeError StopIteration
""".split()


def files():
    return sorted(path for path in PACKAGE.rglob("*") if path.is_file() and "__pycache__" not in path.parts)


def nodes(path):
    return list(ast.walk(ast.parse(path.read_text(encoding="ascii"))))


class Package(unittest.TestCase):
    def test_the_files_are_there(self):
        names = [path.relative_to(PACKAGE).as_posix() for path in files()]
        for name in ["__init__.py", "errors.py", "trees.py", "fires.py", "plans.py", "notes.py"]:
            self.assertIn(name, names)

    def test_nothing_but_python_lies_in_it(self):
        self.assertEqual([path for path in files() if path.suffix != ".py"], [])

    def test_imports_are_the_packages_own(self):
        for path in files():
            for node in nodes(path):
                with self.subTest(path.name):
                    self.assertNotIsInstance(node, ast.Import)
                    if isinstance(node, ast.ImportFrom):
                        self.assertEqual(node.level, 0)
                        self.assertTrue(node.module.startswith("firetree."), node.module)

    def test_names_of_pythons_own(self):
        for path in files():
            used = [node.id for node in nodes(path) if isinstance(node, ast.Name)]
            outside = [name for name in used if name in dir(builtins) and name not in OWN_NAMES]
            with self.subTest(path.name):
                self.assertEqual(outside, [])

    def test_sizes(self):
        for path in files():
            lines = path.read_text(encoding="ascii").split("\n")
            with self.subTest(path.name):
                self.assertLessEqual(len(lines), 400)
                self.assertLessEqual(max(len(line) for line in lines), 120)
                self.assertEqual([line for line in lines if "\t" in line], [])


if __name__ == "__main__":
    unittest.main()
