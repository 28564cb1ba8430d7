"""A part of ../shared/LANGUAGE.md that is easily told: each file of the package keeps to it."""

import ast
import builtins
import pathlib
import re
import unittest

PACKAGE = pathlib.Path(__file__).resolve().parent.parent / "leafway"

BUILTINS = set("""len range enumerate zip min max sum abs sorted reversed int str bool list tuple dict set isinstance
    ord repr any all divmod Exception ValueError TypeError KeyError IndexError LookupError""".split())

PLAIN = (ast.Import, ast.ImportFrom, ast.FunctionDef, ast.ClassDef, ast.Assign, ast.Expr)

BARRED = (ast.Global, ast.Nonlocal, ast.Set, ast.Await, ast.AsyncFunctionDef, ast.Div, ast.Lambda, ast.With,
          ast.NamedExpr, ast.Match)

ERRORS = {"NoPlace", "BadText", "CanNot", "TooMuch", "Unfit"}

METHODS = set("""append clear copy count endswith extend find get index insert isalnum isalpha isdigit islower isspace
    isupper items join keys ljust lower lstrip partition pop remove replace reverse rfind rjust rpartition rsplit rstrip
    setdefault split splitlines startswith strip update upper values zfill bit_length""".split())

WORDS = (r"import \*", r"\btyping\b", r"\btype\b", r"\benum\b", "dataclass", "overload", r"\bnamedtuple\b", "_wall",
         "__name__")


class Language(unittest.TestCase):

    def each(self):
        """Each file with its text and its tree."""
        for path in sorted(PACKAGE.glob("*.py")):
            text = path.read_text(encoding="utf-8")
            yield path, text, ast.parse(text)

    def test_files(self):
        names = [path.name for path in PACKAGE.iterdir() if path.name != "__pycache__"]
        self.assertIn("__init__.py", names)
        for name in names:
            self.assertRegex(name, r"\A[a-z0-9_]+\.py\Z")

    def test_sizes_and_signs(self):
        for path, text, tree in self.each():
            self.assertRegex(text, r"\A[ -~\n]*\Z", path.name)
            self.assertLessEqual(len(text.splitlines()), 399, path.name)
            self.assertLessEqual(max(len(line) for line in text.splitlines()), 120, path.name)
            for node in ast.walk(tree):
                if isinstance(node, ast.FunctionDef):
                    self.assertLessEqual(node.end_lineno - node.lineno + 1, 40, node.name)

    def test_statements(self):
        for path, text, tree in self.each():
            for node in tree.body:
                self.assertIsInstance(node, PLAIN, (path.name, node.lineno))
            for node in ast.walk(tree):
                self.assertNotIsInstance(node, BARRED, (path.name, getattr(node, "lineno", 0)))
                self.assertFalse(getattr(node, "decorator_list", []), path.name)
            for word in WORDS:
                self.assertIsNone(re.search(word, text), (path.name, word))

    def test_own_errors_alone_are_caught_and_raised(self):
        for path, _, tree in self.each():
            for node in ast.walk(tree):
                if isinstance(node, ast.Try):
                    self.assertFalse(node.finalbody, (path.name, node.lineno))
                    for handler in node.handlers:
                        self.assertIsNone(handler.name)
                        self.assertIn(handler.type.id, ERRORS, (path.name, handler.lineno))
                if isinstance(node, ast.Raise):
                    self.assertIn(node.exc.func.id, ERRORS, (path.name, node.lineno))

    def test_methods(self):
        own = {node.name for _, _, tree in self.each() for one in tree.body if isinstance(one, ast.ClassDef)
               for node in one.body if isinstance(node, ast.FunctionDef)}
        for path, _, tree in self.each():
            for node in ast.walk(tree):
                if isinstance(node, ast.Call) and isinstance(node.func, ast.Attribute):
                    self.assertIn(node.func.attr, METHODS | own, (path.name, node.lineno))
                    self.assertFalse(node.keywords, (path.name, node.lineno))

    def test_tables_at_module_level(self):
        for path, _, tree in self.each():
            names = [node.targets[0].id for node in tree.body if isinstance(node, ast.Assign)]
            self.assertEqual(len(names), len(set(names)), path.name)
            for node in tree.body:
                if isinstance(node, ast.Assign):
                    inner = [one for one in ast.walk(node.value) if one is not node.value]
                    self.assertFalse([one for one in inner if isinstance(one, (ast.List, ast.Dict, ast.Call))],
                                     path.name)
                    above = {one.name for one in tree.body
                             if isinstance(one, ast.FunctionDef) and one.lineno < node.lineno}
                    used = {one.id for one in inner if isinstance(one, ast.Name) and isinstance(one.ctx, ast.Load)}
                    self.assertLessEqual(used, above, path.name)

    def test_names(self):
        for path, _, tree in self.each():
            for node in ast.walk(tree):
                for name in (getattr(node, "id", ""), getattr(node, "name", ""), getattr(node, "attr", ""),
                             getattr(node, "arg", "")):
                    self.assertRegex(name or "_", r"\A(_|_?[A-Za-z][A-Za-z0-9_]*|__init__)\Z", path.name)

    def test_a_call_passes_what_a_function_takes(self):
        for path, _, tree in self.each():
            takes = self.parameters(tree)
            for node in ast.walk(tree):
                if isinstance(node, ast.Call) and isinstance(node.func, ast.Name) and node.func.id in takes:
                    self.assertFalse([one for one in node.args if isinstance(one, ast.Starred)], path.name)
                    many = len(node.args) + len(node.keywords)
                    self.assertEqual(many, takes[node.func.id], (path.name, node.lineno))

    def parameters(self, tree):
        """How many parameters each function has that a file defines or imports."""
        trees = [(tree, None)]
        for node in tree.body:
            if isinstance(node, ast.ImportFrom):
                file = ast.parse((PACKAGE / (node.module.split(".")[1] + ".py")).read_text())
                trees.append((file, [one.name for one in node.names]))
        return {node.name: len(node.args.args) for one, names in trees for node in one.body
                if isinstance(node, ast.FunctionDef) and (names is None or node.name in names)}

    def test_imports_are_of_the_very_file_and_in_no_ring(self):
        needs = {}
        for path, _, tree in self.each():
            needs[path.stem] = []
            for node in ast.walk(tree):
                self.assertNotIsInstance(node, ast.Import, path.name)
                if isinstance(node, ast.ImportFrom):
                    self.assertIn(node, tree.body)
                    file = re.fullmatch(r"leafway\.([a-z0-9_]+)", node.module).group(1)
                    needs[path.stem].append(file)
                    self.assertLessEqual({one.name for one in node.names}, self.defined(file), path.name)
        while needs:
            free = [file for file in needs if not any(one in needs for one in needs[file])]
            self.assertTrue(free, needs)
            needs = {file: needs[file] for file in needs if file not in free}

    def defined(self, file):
        """The names that a file binds itself."""
        tree = ast.parse((PACKAGE / (file + ".py")).read_text())
        names = {node.name for node in tree.body if isinstance(node, (ast.FunctionDef, ast.ClassDef))}
        return names | {one.id for node in tree.body if isinstance(node, ast.Assign) for one in node.targets}

    def test_no_name_within_is_that_of_an_import(self):
        for path, _, tree in self.each():
            imported = {one.name for node in tree.body if isinstance(node, ast.ImportFrom) for one in node.names}
            for node in ast.walk(tree):
                if isinstance(node, ast.arg):
                    self.assertNotIn(node.arg, imported, path.name)
                if isinstance(node, ast.Name) and isinstance(node.ctx, ast.Store):
                    self.assertNotIn(node.id, imported, (path.name, node.lineno))

    def test_imports_are_used(self):
        for path, _, tree in self.each():
            used = {node.id for node in ast.walk(tree) if isinstance(node, ast.Name)}
            for node in tree.body:
                if isinstance(node, ast.ImportFrom):
                    self.assertLessEqual({one.name for one in node.names}, used, path.name)

    def test_builtins(self):
        known = set(dir(builtins)) - {"_"}
        for path, _, tree in self.each():
            for node in ast.walk(tree):
                if isinstance(node, ast.Name) and node.id in known:
                    self.assertIn(node.id, BUILTINS, (path.name, node.lineno))
                    self.assertIsInstance(node.ctx, ast.Load, (path.name, node.lineno))
                if isinstance(node, (ast.FunctionDef, ast.ClassDef)):
                    self.assertNotIn(node.name, known, path.name)
                if isinstance(node, ast.arg):
                    self.assertNotIn(node.arg, known, path.name)
