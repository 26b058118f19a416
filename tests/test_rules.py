"""Those rules of LANGUAGE.md that a look at the files can check: L1, L2, L8, L10, L14, L16, L17, L27."""

import ast
import builtins
import unittest
from pathlib import Path

PACKAGE = Path(__file__).resolve().parent.parent / "keeprows"
# L8, without the error classes, and those with a rule of their own.
BUILTINS = """
    len range enumerate zip min max sum abs sorted reversed int str bool bytes list tuple dict set isinstance ord repr
    any all divmod
""".split()
ERRORS = """
    Exception ValueError TypeError KeyError IndexError LookupError ZeroDivisionError ArithmeticError OverflowError
    RuntimeError NotImplementedError
""".split()


def package_files():
    return sorted(path for path in PACKAGE.rglob("*") if path.is_file() and "__pycache__" not in path.parts)


def package_trees():
    return [(path, ast.parse(path.read_text("ascii"))) for path in package_files()]


class RulesTest(unittest.TestCase):

    def test_only_python_files(self):
        self.assertIn(PACKAGE / "__init__.py", package_files())
        for path in package_files():
            self.assertRegex(path.name, r"\A[a-z_]+\.py\Z")

    def test_characters_and_sizes(self):
        for path in package_files():
            text = path.read_text("ascii")
            lines = text.split("\n")
            self.assertLessEqual(len(lines), 399, path)
            self.assertTrue(text.endswith("\n"), path)
            for line in lines:
                self.assertLessEqual(len(line), 120, (path, line))
                self.assertTrue(all(" " <= sign <= "~" for sign in line), (path, line))

    def test_functions_are_small(self):
        for path, tree in package_trees():
            for node in ast.walk(tree):
                if isinstance(node, ast.FunctionDef):
                    self.assertLessEqual(node.end_lineno - node.lineno + 1, 40, (path, node.name))

    def test_imports_name_the_file_that_defines(self):
        for path, tree in package_trees():
            for node in ast.walk(tree):
                self.assertNotIsInstance(node, ast.Import, path)
                if isinstance(node, ast.ImportFrom):
                    self.assertEqual((node.level, node.module.split(".")[0]), (0, "keeprows"), path)
                    source = (PACKAGE.parent / (node.module.replace(".", "/") + ".py")).read_text("ascii")
                    defined = self.names_defined(ast.parse(source))
                    for name in node.names:
                        self.assertIn(name.name, defined, path)
                        self.assertIsNone(name.asname, path)

    def names_defined(self, tree):
        defined = [node.name for node in tree.body if isinstance(node, (ast.FunctionDef, ast.ClassDef))]
        return defined + [node.targets[0].id for node in tree.body if isinstance(node, ast.Assign)]

    def test_names_of_builtins(self):
        for path, tree in package_trees():
            for node in ast.walk(tree):
                if isinstance(node, ast.Name) and node.id in dir(builtins):
                    self.assertIn(node.id, BUILTINS + ERRORS, path)
                    self.assertIsInstance(node.ctx, ast.Load, path)
                if isinstance(node, (ast.FunctionDef, ast.ClassDef)):
                    self.assertNotIn(node.name, dir(builtins), path)
                if isinstance(node, ast.arg):
                    self.assertNotIn(node.arg, dir(builtins), path)

    def test_no_floats_and_no_annotations(self):
        for path, tree in package_trees():
            for node in ast.walk(tree):
                self.assertNotIsInstance(node, (ast.Div, ast.AnnAssign, ast.Global, ast.AsyncFunctionDef), path)
                if isinstance(node, ast.Constant):
                    self.assertNotIsInstance(node.value, (float, complex), path)
                    if isinstance(node.value, str):
                        self.assertNotIn("%", node.value, path)


if __name__ == "__main__":
    unittest.main()
