"""Rules of LANGUAGE.md that can be seen in the package's files one by one."""

import ast
import builtins
import os
import unittest

import nestboards

FOLDER = os.path.dirname(os.path.abspath(nestboards.__file__))
BUILTINS = """len range enumerate zip min max sum abs sorted reversed int str bool list tuple dict set isinstance ord
repr any all divmod type property
Exception ValueError TypeError KeyError IndexError LookupError ZeroDivisionError""".split()
METHODS = """append clear copy count endswith extend find get index insert isalnum isalpha isdigit islower isspace
isupper items join keys ljust lower lstrip partition pop remove replace reverse rfind rjust rpartition rsplit rstrip
setdefault split splitlines startswith strip update upper values zfill bit_length add discard""".split()
LIBRARY = {"math": ["gcd", "lcm", "isqrt", "comb", "perm", "factorial"]}
# From ast.Global on they are allowed within bounds, and the package does without them.
NOT_USED = (
    ast.AsyncFunctionDef, ast.AsyncFor, ast.AsyncWith, ast.Await, ast.Import, ast.Div, ast.MatMult, ast.Global,
    ast.Delete, ast.GeneratorExp, ast.AnnAssign, ast.Starred,
)
AT_THE_TOP = (ast.Expr, ast.ImportFrom, ast.FunctionDef, ast.ClassDef, ast.Assign)


def sources():
    """The text of each file of the package by its name."""
    found = {}
    for name in sorted(os.listdir(FOLDER)):
        if name != "__pycache__":
            with open(os.path.join(FOLDER, name), encoding="utf-8") as file:
                found[name] = file.read()
    return found


def trees():
    return {name: ast.parse(text) for name, text in sources().items()}


def defined(tree):
    """The names that a file itself defines at module level."""
    found = [node.name for node in tree.body if isinstance(node, (ast.FunctionDef, ast.ClassDef))]
    for node in tree.body:
        if isinstance(node, ast.Assign):
            found += [target.id for target in node.targets]
    return found


def imported(tree):
    return [alias.name for node in tree.body if isinstance(node, ast.ImportFrom) for alias in node.names]


def local_names(tree):
    """Parameters and all names that are assigned within functions."""
    found = []
    for function in ast.walk(tree):
        if isinstance(function, ast.FunctionDef):
            for node in ast.walk(function):
                if isinstance(node, ast.arg):
                    found.append(node.arg)
                if isinstance(node, ast.Name) and isinstance(node.ctx, ast.Store):
                    found.append(node.id)
    return found


class FilesTest(unittest.TestCase):
    def test_names(self):
        for name in sources():
            self.assertRegex(name, r"^[a-z_]+\.py$")
        self.assertIn("__init__.py", sources())

    def test_characters_and_sizes(self):
        for name, text in sources().items():
            self.assertTrue(all(sign == "\n" or " " <= sign <= "~" for sign in text), name)
            rows = text.split("\n")
            self.assertLessEqual(len(rows), 399, name)
            self.assertLessEqual(max(len(row) for row in rows), 120, name)

    def test_functions_have_at_most_40_lines(self):
        for name, tree in trees().items():
            for node in ast.walk(tree):
                if isinstance(node, ast.FunctionDef):
                    self.assertLessEqual(node.end_lineno - node.lineno + 1, 40, (name, node.name))

    def test_init_binds_nothing(self):
        self.assertEqual([type(node) for node in trees()["__init__.py"].body], [ast.Expr])


class NamesTest(unittest.TestCase):
    def test_imports_name_the_file_that_defines_the_name(self):
        known = trees()
        for name, tree in known.items():
            for node in tree.body:
                if isinstance(node, ast.ImportFrom):
                    self.check_import(name, node, known)

    def check_import(self, name, node, known):
        self.assertEqual(node.level, 0, name)
        self.assertTrue(all(alias.asname is None for alias in node.names), name)
        allowed = LIBRARY.get(node.module)
        if allowed is None:
            package, file = node.module.split(".")
            self.assertEqual(package, "nestboards", name)
            allowed = defined(known[file + ".py"])
        for alias in node.names:
            self.assertIn(alias.name, allowed, name)

    def test_no_two_files_import_from_each_other(self):
        ahead = {}
        for name, tree in trees().items():
            froms = [node.module for node in tree.body if isinstance(node, ast.ImportFrom)]
            ahead[name] = [row.split(".")[1] + ".py" for row in froms if row not in LIBRARY]
        while ahead:
            free = [name for name in ahead if not any(row in ahead for row in ahead[name])]
            self.assertTrue(free, ahead)
            ahead = {name: rows for name, rows in ahead.items() if name not in free}

    def test_each_name_is_bound_once(self):
        for name, tree in trees().items():
            bound = defined(tree) + imported(tree)
            self.assertEqual(len(bound), len(set(bound)), name)
            self.assertFalse(set(bound) & set(dir(builtins)), name)

    def test_local_names_hide_nothing(self):
        for name, tree in trees().items():
            hidden = set(local_names(tree)) & (set(dir(builtins)) | set(imported(tree)) | set(defined(tree)))
            self.assertFalse(hidden, name)

    def test_only_the_builtins_that_are_allowed(self):
        for name, tree in trees().items():
            used = {node.id for node in ast.walk(tree) if isinstance(node, ast.Name)}
            self.assertFalse(used & set(dir(builtins)) - set(BUILTINS), name)

    def test_only_the_methods_that_are_allowed(self):
        own = [node.name for tree in trees().values() for node in ast.walk(tree) if isinstance(node, ast.FunctionDef)]
        for name, tree in trees().items():
            for node in ast.walk(tree):
                if isinstance(node, ast.Call) and isinstance(node.func, ast.Attribute):
                    self.assertIn(node.func.attr, METHODS + own, name)


class StatementsTest(unittest.TestCase):
    def test_only_these_at_the_top(self):
        for name, tree in trees().items():
            for node in tree.body:
                self.assertIsInstance(node, AT_THE_TOP, name)
                if isinstance(node, ast.Expr):
                    self.assertIs(node, tree.body[0], name)

    def test_what_is_not_used(self):
        for name, tree in trees().items():
            for node in ast.walk(tree):
                self.assertNotIsInstance(node, NOT_USED, name)
                if isinstance(node, (ast.FunctionDef, ast.ClassDef)):
                    self.assertLessEqual({ast.unparse(row) for row in node.decorator_list}, {"property"}, name)

    def test_the_word_for_kinds_stands_only_before_a_name(self):
        for name, tree in trees().items():
            allowed = [
                node.value.func for node in ast.walk(tree)
                if isinstance(node, ast.Attribute) and node.attr == "__name__" and isinstance(node.value, ast.Call)
            ]
            used = [node for node in ast.walk(tree) if isinstance(node, ast.Name) and node.id == "type"]
            self.assertTrue(all(node in allowed for node in used), name)

    def test_errors_that_are_caught(self):
        for name, tree in trees().items():
            for node in ast.walk(tree):
                if isinstance(node, ast.ExceptHandler):
                    self.assertEqual(node.type.id, "NestError", name)

    def test_literals(self):
        for name, tree in trees().items():
            for node in ast.walk(tree):
                if isinstance(node, ast.Constant):
                    self.assertNotIsInstance(node.value, (float, complex), name)
                    self.assertNotIn("%", str(node.value), name)


if __name__ == "__main__":
    unittest.main()
