"""Those rules of LANGUAGE.md that a look at the files can check: L1, L2, L7, L8, L10 to L20, L25 to L28, in part."""

import ast
import builtins
import re
import unittest
from pathlib import Path

PACKAGE = Path(__file__).resolve().parent.parent / "keeprows"
# L8, without the error classes, and those with a rule of their own.
BUILTINS = """
    len range enumerate zip min max sum abs sorted reversed int str bool bytes list tuple dict set isinstance ord repr
    any all divmod
""".split()
ERRORS = """
    Exception ValueError TypeError KeyError IndexError LookupError ZeroDivisionError ArithmeticError OverflowError
    RuntimeError NotImplementedError
""".split()
# L2, L25 and L17.
LIBRARY = {"math": ["gcd", "lcm", "isqrt", "comb", "perm", "factorial"], "heapq": ["heappush", "heappop"]}
METHODS = """
    append clear copy count endswith extend find get index insert isalnum isalpha isdigit islower isspace isupper items
    join keys ljust lower lstrip partition pop remove replace reverse rfind rjust rpartition rsplit rstrip setdefault
    split splitlines startswith strip update upper values zfill bit_length
""".split()
BARRED = """
    register mro elements open input law version_info with_traceback add_note type typing enum Enum Generic Protocol ABC
    namedtuple NamedTuple TypedDict dataclass overload contextmanager abstractmethod
""".split()
# L26: no attribute is called so.
NO_ATTRIBUTES = """
    items keys values pop update append clear extend insert remove reverse setdefault sort args encode decode hex fromhex
    format format_map mro as_integer_ratio bit_count conjugate from_bytes is_integer to_bytes
""".split()


def package_files():
    return sorted(path for path in PACKAGE.rglob("*") if path.is_file() and "__pycache__" not in path.parts)


def package_trees():
    return [(path, ast.parse(path.read_text("ascii"))) for path in package_files()]


class RulesTest(unittest.TestCase):

    def test_only_python_files(self):
        self.assertIn(PACKAGE / "__init__.py", package_files())
        for path in package_files():
            self.assertRegex(path.name, r"\A[a-z_]+\.py\Z")

    def test_characters_and_sizes(self):
        for path in package_files():
            text = path.read_text("ascii")
            lines = text.split("\n")
            self.assertLessEqual(len(lines), 399, path)
            self.assertTrue(text.endswith("\n"), path)
            for line in lines:
                self.assertLessEqual(len(line), 120, (path, line))
                self.assertTrue(all(" " <= sign <= "~" for sign in line), (path, line))

    def test_functions_are_small(self):
        for path, tree in package_trees():
            for node in ast.walk(tree):
                if isinstance(node, ast.FunctionDef):
                    self.assertLessEqual(node.end_lineno - node.lineno + 1, 40, (path, node.name))

    def test_imports_name_the_file_that_defines(self):
        for path, tree in package_trees():
            for node in ast.walk(tree):
                self.assertNotIsInstance(node, ast.Import, path)
                if isinstance(node, ast.ImportFrom):
                    self.assertEqual(node.level, 0)
                    for name in node.names:
                        self.assertIn(name.name, self.names_in(node.module), path)
                        self.assertIsNone(name.asname, path)

    def names_in(self, module):
        if module in LIBRARY:
            return LIBRARY[module]
        self.assertEqual(module.split(".")[0], "keeprows")
        return self.names_defined(ast.parse((PACKAGE.parent / (module.replace(".", "/") + ".py")).read_text("ascii")))

    def test_no_two_files_import_from_each_other(self):
        sources = {
            "keeprows." + path.stem: [node.module for node in tree.body if isinstance(node, ast.ImportFrom)]
            for path, tree in package_trees()
        }
        done = []
        while len(done) < len(sources):
            ready = [
                module for module in sources
                if module not in done and all(source in done or source in LIBRARY for source in sources[module])
            ]
            self.assertTrue(ready, "files that import from each other")
            done += ready

    def names_defined(self, tree):
        defined = [node.name for node in tree.body if isinstance(node, (ast.FunctionDef, ast.ClassDef))]
        return defined + [node.targets[0].id for node in tree.body if isinstance(node, ast.Assign)]

    def test_names_of_builtins(self):
        for path, tree in package_trees():
            for node in ast.walk(tree):
                if isinstance(node, ast.Name) and node.id in dir(builtins) and node.id != "_":
                    self.assertIn(node.id, BUILTINS + ERRORS, path)
                    self.assertIsInstance(node.ctx, ast.Load, path)
                if isinstance(node, (ast.FunctionDef, ast.ClassDef)):
                    self.assertNotIn(node.name, dir(builtins), path)
                if isinstance(node, ast.arg):
                    self.assertNotIn(node.arg, dir(builtins), path)

    def test_no_floats_and_no_annotations(self):
        for path, tree in package_trees():
            for node in ast.walk(tree):
                self.assertNotIsInstance(node, (ast.Div, ast.AnnAssign, ast.Global, ast.AsyncFunctionDef), path)
                if isinstance(node, ast.Constant):
                    self.assertNotIsInstance(node.value, (float, complex), path)
                    if isinstance(node.value, str):
                        self.assertNotIn("%", node.value, path)

    def test_names_in_functions(self):
        for path, tree in package_trees():
            defined = [node.name for node in tree.body if isinstance(node, (ast.FunctionDef, ast.ClassDef))]
            for node in tree.body:
                if isinstance(node, ast.ImportFrom):
                    defined += [name.name for name in node.names]
            self.assertEqual(len(defined), len(set(defined)), path)
            for node in ast.walk(tree):
                if isinstance(node, ast.arg):
                    self.assertNotIn(node.arg, defined, path)
                if isinstance(node, ast.Name) and isinstance(node.ctx, ast.Store):
                    self.assertNotIn(node.id, defined, path)
                    self.assertRegex(node.id, r"\A(_?[A-Za-z][A-Za-z0-9_]*|_)\Z")

    def test_barred_words(self):
        for path, tree in package_trees():
            for node in ast.walk(tree):
                for told in [getattr(node, field, None) for field in ("id", "arg", "attr", "name")]:
                    if isinstance(told, str):
                        self.assertNotIn(told, BARRED, path)
                        self.assertIsNone(re.match("_wall|_pe_|_sre|_record|_outside|_cold|_lay_|_law_|_stub_", told))
                if isinstance(node, ast.Constant) and isinstance(node.value, str):
                    self.assertFalse(node.value.startswith("_"), path)

    def test_methods_and_attributes(self):
        methods, attributes = {}, {}
        for path, tree in package_trees():
            for node in ast.walk(tree):
                if isinstance(node, ast.ClassDef):
                    names = [part.name for part in node.body if isinstance(part, ast.FunctionDef)]
                    self.assertEqual(len(names), len(set(names)), path)
                    methods[node.name] = names
                    self.assertEqual(node.decorator_list, [])
                    attributes[node.name] = [
                        part.attr for part in ast.walk(node)
                        if isinstance(part, ast.Attribute) and isinstance(part.ctx, ast.Store)
                    ]
        own = [name for names in methods.values() for name in names]
        assigned = [name for names in attributes.values() for name in names]
        for name in methods:
            self.assertEqual(set(methods[name]) & set(attributes[name]), set())
        for name in assigned:
            self.assertNotIn(name, NO_ATTRIBUTES)
            self.assertNotIn(name, own)
        for path, tree in package_trees():
            called = [node.func for node in ast.walk(tree) if isinstance(node, ast.Call)]
            for node in ast.walk(tree):
                if isinstance(node, ast.Attribute):
                    self.assertIn(node.attr, METHODS + own if node in called else own + assigned, path)

    def test_calls_of_methods_like_those_of_builtin_values(self):
        for path, tree in package_trees():
            for node in ast.walk(tree):
                if isinstance(node, ast.Call) and isinstance(node.func, ast.Attribute) and node.func.attr in METHODS:
                    self.assertEqual(node.keywords, [], path)

    def test_expressions(self):
        barred = (
            ast.GeneratorExp, ast.Lambda, ast.SetComp, ast.Set, ast.Try, ast.With, ast.Yield, ast.NamedExpr, ast.JoinedStr,
            ast.Match, ast.Starred, ast.Nonlocal,
        )
        for path, tree in package_trees():
            for node in ast.walk(tree):
                # None of these is needed so far; each has rules of its own.
                self.assertNotIsInstance(node, barred, path)
                if isinstance(node, ast.Compare) and isinstance(node.ops[0], (ast.Is, ast.IsNot)):
                    self.assertIsInstance(node.comparators[0], ast.Constant, path)
                if isinstance(node, ast.BinOp) and isinstance(node.op, ast.Pow):
                    self.assertIsInstance(node.right, ast.Constant, path)

    def test_sets_stand_in_sorted(self):
        for path, tree in package_trees():
            calls = [node for node in ast.walk(tree) if isinstance(node, ast.Call) and isinstance(node.func, ast.Name)]
            allowed = [argument for call in calls if call.func.id in ("sorted", "len") for argument in call.args]
            for call in calls:
                if call.func.id in ("set", "frozenset"):
                    self.assertIn(call, allowed, path)

    def test_values_at_module_level_are_plain(self):
        for path, tree in package_trees():
            for node in tree.body:
                if isinstance(node, ast.Assign):
                    self.assertEqual(len(node.targets), 1)
                    for part in ast.walk(node.value):
                        self.assertNotIsInstance(part, (ast.Call, ast.Name, ast.Attribute, ast.Dict, ast.List), path)

    def test_default_values_are_plain(self):
        for path, tree in package_trees():
            for node in ast.walk(tree):
                if isinstance(node, ast.arguments):
                    for told in node.defaults + [one for one in node.kw_defaults if one is not None]:
                        self.assertIsInstance(told, ast.Constant, path)

    def test_raised_errors_are_created_on_the_spot(self):
        for path, tree in package_trees():
            for node in ast.walk(tree):
                if isinstance(node, ast.Raise):
                    self.assertIsInstance(node.exc, ast.Call, path)
                    self.assertRegex(node.exc.func.id, r"\A(Invalid|LimitExceeded)")


if __name__ == "__main__":
    unittest.main()
