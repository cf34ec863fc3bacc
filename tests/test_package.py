"""The interface's names, and the rules of the language that can be counted."""

import ast
import builtins
import pathlib
import unittest

ROOT = pathlib.Path(__file__).resolve().parent.parent
PACKAGE = ROOT / "signedcounts"
LIBRARY = ("heapq", "math", "itertools", "collections")

INTERFACE = {
    "signedcounts/errors.py": {
        "CountError": (), "InvalidName": (), "InvalidLetters": (), "InvalidText": (), "InvalidPattern": (),
        "InvalidWord": (), "InvalidTable": (), "InvalidOperation": (), "ParseError": (), "InvalidNumber": (),
        "UnknownName": (), "TooMany": (), "NothingToUndo": (), "NotTrue": (),
    },
    "signedcounts/base/names.py": {
        "is_integer": ["value"], "is_name": ["value"], "is_letters": ["value"],
        "is_text": ["letters", "value"], "is_pattern": ["letters", "value"],
    },
    "signedcounts/word/words.py": {
        "Word": (
            "__init__", "of", "letters", "runs", "size", "__getitem__", "__len__", "__iter__", "__eq__", "__str__",
            "__mul__", "__invert__", "power", "turned", "bracket", "shortest", "over",
        ),
    },
    "signedcounts/pattern/leading.py": {
        "is_leading": ["letters", "value"], "factors": ["letters", "pattern"], "halves": ["letters", "pattern"],
        "patterns_of": ["letters", "depth"], "leading_of": ["letters", "depth"], "how_many": ["letters", "size"],
    },
    "signedcounts/count/counts.py": {
        "count": ["word", "pattern"], "beginnings": ["word", "pattern"], "binomial": ["number", "size"],
        "scattered": ["letters", "text", "pattern"],
    },
    "signedcounts/table/tables.py": {
        "Table": (
            "__init__", "of", "unit", "letters", "depth", "entries", "__getitem__", "__len__", "__eq__", "__str__",
            "__mul__", "__invert__", "power", "cut", "with_entry",
        ),
    },
    "signedcounts/table/overlays.py": {
        "overlays": ["letters", "one", "other"], "rule_sum": ["table", "one", "other"],
        "does_follow": ["table", "one", "other"],
    },
    "signedcounts/table/truth.py": {
        "is_true": ["table"], "first_fault": ["table"], "is_fault": ["table", "value"], "mended": ["table"],
        "paper": ["table"], "is_paper": ["table", "value"],
    },
    "signedcounts/table/brackets.py": {
        "bracket_of": ["letters", "pattern"], "exponents": ["table"], "by_exponents": ["letters", "depth", "numbers"],
        "leading_values": ["table"], "by_leading": ["letters", "depth", "numbers"], "word_of": ["table"],
    },
    "signedcounts/word/apart.py": {
        "level": ["word", "depth"], "first_difference": ["one", "other", "depth"], "run_pattern": ["one", "other"],
        "image": ["word", "pattern", "modulus"], "parting": ["one", "other"], "is_parting": ["one", "other", "value"],
    },
    "signedcounts/power/far.py": {
        "growth": ["table", "pattern"], "moments": ["table", "pattern", "value"], "exponent": ["table", "other"],
        "far_count": ["word", "number", "pattern"],
    },
    "signedcounts/power/roots.py": {
        "root": ["table", "number"], "greatest_root": ["table"], "root_paper": ["table", "number"],
        "is_root_paper": ["table", "number", "value"],
    },
    "signedcounts/turn/commuting.py": {
        "table_level": ["table"], "do_commute": ["one", "other"], "core": ["table"],
        "commuting_parts": ["table", "other"], "do_words_commute": ["one", "other"], "word_root": ["word"],
    },
    "signedcounts/turn/turned.py": {
        "are_turned": ["one", "other"], "turner": ["one", "other"], "is_turner": ["one", "other", "value"],
        "shifts": ["table", "size"], "turn_paper": ["one", "other"], "is_turn_paper": ["one", "other", "value"],
        "word_turner": ["one", "other"],
    },
    "signedcounts/club/clubs.py": {
        "Club": (
            "__init__", "letters", "depth", "rows", "parts", "__contains__", "__len__", "__eq__", "__str__", "numbers",
            "joined", "turned", "is_within", "is_kept",
        ),
    },
    "signedcounts/lead/leads.py": {
        "Lead": (
            "__init__", "letters", "onto", "determinant", "__call__", "__getitem__", "__len__", "__eq__", "__str__",
            "__mul__",
        ),
        "weights": ["lead", "pattern"], "origin": ["lead", "table"],
    },
    "signedcounts/desk/desk.py": {
        "Desk": (
            "__init__", "put", "take", "join", "turn", "cross", "flip", "lead_all", "deepen", "table", "counted",
            "club", "alike", "crossing", "undo", "redo", "trial", "during", "twin", "letters", "depth", "names",
            "__getitem__", "__contains__", "__len__", "__iter__", "__eq__", "__str__",
        ),
    },
    "signedcounts/text/formats.py": {
        "write_word": ["word"], "write_table": ["table"], "write_lead": ["lead"], "write_value": ["value"],
        "read_word": ["text"], "read_table": ["text"], "read_lead": ["text"], "read_value": ["text"],
    },
    "signedcounts/text/shell.py": {"Shell": ("__init__", "desk", "__call__", "answer")},
}

BUILTINS = set((
    "len range enumerate zip min max sum abs sorted reversed int str bool list tuple dict set isinstance ord repr any "
    "all divmod iter ValueError KeyError IndexError LookupError ArithmeticError OverflowError TypeError property classmethod "
    "staticmethod"
).split())
METHODS = set((
    "append clear copy count endswith extend find get index insert isalnum isalpha isdigit islower isspace isupper "
    "items join keys ljust lower lstrip partition pop remove replace reverse rfind rjust rpartition rsplit rstrip "
    "setdefault split splitlines startswith strip update upper values zfill bit_length"
).split())


def sources():
    return sorted(path for path in PACKAGE.rglob("*.py"))


def trees():
    return [(path, ast.parse(path.read_text())) for path in sources()]


class Interface(unittest.TestCase):
    def test_defined_where_it_is_listed(self):
        for file, listed in INTERFACE.items():
            tree = ast.parse((ROOT / file).read_text())
            found = {node.name: node for node in tree.body if isinstance(node, (ast.ClassDef, ast.FunctionDef))}
            for name, parts in listed.items():
                self.assertIn(name, found)
                if isinstance(found[name], ast.FunctionDef):
                    self.assertEqual([arg.arg for arg in found[name].args.args], parts)
                else:
                    own = {node.name for node in found[name].body if isinstance(node, ast.FunctionDef)}
                    self.assertEqual(set(parts) - own, set())


class Language(unittest.TestCase):
    def test_files(self):
        self.assertLessEqual(len(sources()), 100)
        for path in sources():
            lines = path.read_text().split("\n")
            self.assertLessEqual(len(lines), 400, path)
            for line in lines:
                self.assertLessEqual(len(line), 120, (path, line))
                self.assertTrue(all(" " <= sign <= "~" for sign in line), (path, line))

    def test_folders(self):
        for folder in [PACKAGE] + [path for path in PACKAGE.rglob("*") if path.is_dir()]:
            if folder.name != "__pycache__":
                self.assertTrue((folder / "__init__.py").is_file(), folder)

    def test_functions(self):
        for path, tree in trees():
            for node in ast.walk(tree):
                if isinstance(node, ast.FunctionDef):
                    self.assertLessEqual(node.end_lineno - node.lineno + 1, 40, (path, node.name))

    def test_imports(self):
        for path, tree in trees():
            for node in ast.walk(tree):
                self.assertNotIsInstance(node, ast.Import, path)
                if isinstance(node, ast.ImportFrom):
                    self.assertEqual(node.level, 0, path)
                    self.assertIn(node.module.split(".")[0], ("signedcounts",) + LIBRARY, path)

    def test_names_of_python(self):
        known = {name for name in dir(builtins) if not name.startswith("__")}
        for path, tree in trees():
            for node in ast.walk(tree):
                if isinstance(node, ast.Name) and node.id in known - BUILTINS:
                    self.fail((path, node.lineno, node.id))
                if isinstance(node, ast.arg) or isinstance(node, ast.Name) and isinstance(node.ctx, ast.Store):
                    self.assertNotIn(node.arg if isinstance(node, ast.arg) else node.id, known, path)

    def test_methods(self):
        own = {"__init__"}
        for path, tree in trees():
            own |= {node.name for node in ast.walk(tree) if isinstance(node, ast.FunctionDef)}
        for path, tree in trees():
            for node in ast.walk(tree):
                if isinstance(node, ast.Call) and isinstance(node.func, ast.Attribute):
                    self.assertIn(node.func.attr, METHODS | own, (path, node.lineno))
                    if node.func.attr in METHODS:
                        self.assertEqual(node.keywords, [], (path, node.lineno))

    def test_nothing_that_an_object_holds_is_called(self):
        # Operators and properties, and what they reach, call nothing that they are passed or hold. A call
        # by the name of any attribute could be one, so no call has such a name.
        held, called = set(), set()
        for path, tree in trees():
            for node in ast.walk(tree):
                if isinstance(node, ast.Attribute) and isinstance(node.ctx, ast.Store):
                    held.add(node.attr)
                elif isinstance(node, ast.Call) and isinstance(node.func, ast.Attribute):
                    called.add(node.func.attr)
        self.assertIn("index", held)
        self.assertEqual(held & called, set())

    def test_names_of_imports_are_not_used_again(self):
        for path, tree in trees():
            taken = {node.name for node in ast.walk(tree) if isinstance(node, ast.ClassDef)}
            for node in ast.walk(tree):
                if isinstance(node, ast.ImportFrom):
                    self.assertEqual(len(node.names), 1, (path, node.lineno))
                    self.assertIs(node.names[0].asname, None, (path, node.lineno))
                    taken.add(node.names[0].name)
            for node in ast.walk(tree):
                if isinstance(node, ast.arg):
                    self.assertNotIn(node.arg, taken, path)
                elif isinstance(node, ast.Name) and isinstance(node.ctx, ast.Store):
                    self.assertNotIn(node.id, taken, (path, node.lineno))

    def test_statements(self):
        barred = (ast.Global, ast.Nonlocal, ast.AugAssign, ast.Lambda, ast.Set, ast.SetComp)
        for path, tree in trees():
            for node in ast.walk(tree):
                # The package needs none of these, and the rules for them are long.
                self.assertNotIsInstance(node, barred, (path, getattr(node, "lineno", 0)))
                if isinstance(node, ast.Compare):
                    for sign, right in zip(node.ops, node.comparators):
                        if isinstance(sign, (ast.Is, ast.IsNot)):
                            self.assertIs(right.value, None, (path, node.lineno))
                if isinstance(node, ast.BinOp) and isinstance(node.op, ast.Pow):
                    self.assertIsInstance(node.right, ast.Constant, (path, node.lineno))

    def test_handlers(self):
        own = set(INTERFACE["signedcounts/errors.py"])
        for path, tree in trees():
            for node in ast.walk(tree):
                if isinstance(node, ast.Try):
                    self.assertEqual(node.finalbody, [], path)
                    names = [handler.name for handler in node.handlers if handler.name is not None]
                    self.assertEqual(len(set(names)), len(names), path)
                    for handler in node.handlers:
                        self.assertIn(handler.type.id, own, path)

    def test_all_imports_are_used(self):
        for path, tree in trees():
            read = {node.id for node in ast.walk(tree) if isinstance(node, ast.Name)}
            for node in ast.walk(tree):
                if isinstance(node, ast.ImportFrom):
                    self.assertIn(node.names[0].name, read, path)

    def test_no_circles(self):
        ahead = {}
        for path, tree in trees():
            name = ".".join(path.relative_to(ROOT).with_suffix("").parts)
            ahead[name] = {node.module for node in ast.walk(tree) if isinstance(node, ast.ImportFrom)} & set(
                ".".join(other.relative_to(ROOT).with_suffix("").parts) for other in sources())
        while ahead:
            free = [name for name in ahead if not ahead[name] & set(ahead)]
            self.assertNotEqual(free, [])
            for name in free:
                del ahead[name]

    def test_no_generator_expressions_floats_and_divisions(self):
        # Generator expressions are barred where a class of the package has __eq__.
        for path, tree in trees():
            for node in ast.walk(tree):
                self.assertNotIsInstance(node, (ast.GeneratorExp, ast.Div), path)
                if isinstance(node, ast.Constant):
                    self.assertNotIsInstance(node.value, (float, complex), path)
