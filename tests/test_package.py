"""The interface's names, and the rules of the language that can be counted."""

import ast
import pathlib
import unittest

ROOT = pathlib.Path(__file__).resolve().parent.parent
PACKAGE = ROOT / "signedcounts"
LIBRARY = ("heapq", "math", "itertools", "collections")

INTERFACE = {
    "signedcounts/errors.py": {
        "CountError": (), "InvalidName": (), "InvalidLetters": (), "InvalidText": (), "InvalidPattern": (),
        "InvalidWord": (), "InvalidTable": (), "InvalidOperation": (), "ParseError": (), "InvalidNumber": (),
        "UnknownName": (), "TooMany": (), "NothingToUndo": (), "NotTrue": (),
    },
    "signedcounts/base/names.py": {
        "is_integer": ["value"], "is_name": ["value"], "is_letters": ["value"],
        "is_text": ["letters", "value"], "is_pattern": ["letters", "value"],
    },
    "signedcounts/word/words.py": {
        "Word": (
            "__init__", "of", "letters", "runs", "size", "__getitem__", "__len__", "__iter__", "__eq__", "__str__",
            "__mul__", "__invert__", "power", "turned", "bracket", "shortest", "over",
        ),
    },
}


def sources():
    return sorted(path for path in PACKAGE.rglob("*.py"))


def trees():
    return [(path, ast.parse(path.read_text())) for path in sources()]


class Interface(unittest.TestCase):
    def test_defined_where_it_is_listed(self):
        for file, listed in INTERFACE.items():
            tree = ast.parse((ROOT / file).read_text())
            found = {node.name: node for node in tree.body if isinstance(node, (ast.ClassDef, ast.FunctionDef))}
            for name, parts in listed.items():
                self.assertIn(name, found)
                if isinstance(found[name], ast.FunctionDef):
                    self.assertEqual([arg.arg for arg in found[name].args.args], parts)
                else:
                    own = {node.name for node in found[name].body if isinstance(node, ast.FunctionDef)}
                    self.assertEqual(set(parts) - own, set())


class Language(unittest.TestCase):
    def test_files(self):
        self.assertLessEqual(len(sources()), 100)
        for path in sources():
            lines = path.read_text().split("\n")
            self.assertLessEqual(len(lines), 400, path)
            for line in lines:
                self.assertLessEqual(len(line), 120, (path, line))
                self.assertTrue(all(" " <= sign <= "~" for sign in line), (path, line))

    def test_folders(self):
        for folder in [PACKAGE] + [path for path in PACKAGE.rglob("*") if path.is_dir()]:
            if folder.name != "__pycache__":
                self.assertTrue((folder / "__init__.py").is_file(), folder)

    def test_functions(self):
        for path, tree in trees():
            for node in ast.walk(tree):
                if isinstance(node, ast.FunctionDef):
                    self.assertLessEqual(node.end_lineno - node.lineno + 1, 40, (path, node.name))

    def test_imports(self):
        for path, tree in trees():
            for node in ast.walk(tree):
                self.assertNotIsInstance(node, ast.Import, path)
                if isinstance(node, ast.ImportFrom):
                    self.assertEqual(node.level, 0, path)
                    self.assertIn(node.module.split(".")[0], ("signedcounts",) + LIBRARY, path)

    def test_no_generator_expressions_floats_and_divisions(self):
        # Generator expressions are barred where a class of the package has __eq__.
        for path, tree in trees():
            for node in ast.walk(tree):
                self.assertNotIsInstance(node, (ast.GeneratorExp, ast.Div), path)
                if isinstance(node, ast.Constant):
                    self.assertNotIsInstance(node.value, (float, complex), path)
