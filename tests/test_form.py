"""The form of the package's files, where a test can tell it plainly."""

import ast
import pathlib
import unittest
import warnings

PACKAGE = pathlib.Path(__file__).resolve().parent.parent / "holepairs"
OUTSIDE = ("heapq", "math", "itertools", "collections")
BUILTINS = {"len", "range", "enumerate", "zip", "min", "max", "sum", "abs", "sorted", "reversed",
            "int", "str", "bool", "list", "tuple", "dict", "set", "isinstance", "ord", "repr",
            "any", "all", "divmod", "map", "iter", "next", "type", "ValueError"}
BARRED = (ast.Global, ast.AsyncFunctionDef, ast.AsyncFor, ast.AsyncWith, ast.Await, ast.Div)


def files():
    return sorted(PACKAGE.rglob("*.py"))


def tree_of(path):
    return ast.parse(path.read_text(encoding="utf-8"))


def asks_for_a_kind(node):
    """Tell of a comparison whether it is `type(x) is int` or the like, `is not` too."""
    if not isinstance(node.left, ast.Call) or not isinstance(node.left.func, ast.Name):
        return False
    return (node.left.func.id == "type" and [type(sign) for sign in node.ops] in ([ast.Is], [ast.IsNot])
            and isinstance(node.comparators[0], ast.Name)
            and node.comparators[0].id in ("int", "str", "list", "tuple"))


class FormTest(unittest.TestCase):

    def test_the_folder_holds_python_files_only(self):
        self.assertTrue((PACKAGE / "__init__.py").is_file())
        for path in PACKAGE.rglob("*"):
            if "__pycache__" not in path.parts:
                self.assertEqual(path.suffix, ".py", path)

    def test_signs_and_lengths(self):
        for path in files():
            lines = path.read_text(encoding="utf-8").split("\n")
            self.assertLessEqual(len(lines), 399, path)
            for line in lines:
                self.assertLessEqual(len(line), 120, path)
                self.assertTrue(all(" " <= sign <= "~" for sign in line), path)

    def test_functions_are_small(self):
        for path in files():
            for node in ast.walk(tree_of(path)):
                if isinstance(node, ast.FunctionDef):
                    self.assertLessEqual(node.end_lineno - node.lineno + 1, 40, node.name)
                    self.assertEqual(node.decorator_list, [])

    def test_imports(self):
        for path in files():
            for node in ast.walk(tree_of(path)):
                self.assertNotIsInstance(node, ast.Import, path)
                if isinstance(node, ast.ImportFrom):
                    self.assertEqual(node.level, 0, path)
                    self.assertTrue(node.module.startswith("holepairs.") or node.module in OUTSIDE)
                    self.assertNotIn("*", [alias.name for alias in node.names])

    def test_statements_and_signs_that_do_not_stand_there(self):
        for path in files():
            for node in ast.walk(tree_of(path)):
                self.assertNotIsInstance(node, BARRED, path)
                if isinstance(node, ast.Constant):
                    self.assertNotIsInstance(node.value, (float, complex), path)
                if isinstance(node, ast.Compare):
                    self.check_is(node, path)

    def check_is(self, node, path):
        for sign, other in zip(node.ops, node.comparators):
            if isinstance(sign, (ast.Is, ast.IsNot)) and not asks_for_a_kind(node):
                self.assertIsInstance(other, ast.Constant, path)

    def test_a_kind_is_asked_for_by_is(self):
        # By == or != the kind that is handed in would answer, and as it likes.
        for path in files():
            tree = tree_of(path)
            asked = [node for node in ast.walk(tree)
                     if isinstance(node, ast.Compare) and asks_for_a_kind(node)]
            called = [node for node in ast.walk(tree)
                      if isinstance(node, ast.Name) and node.id == "type"]
            self.assertEqual(len(asked), len(called), path)

    def test_builtins(self):
        barred = set(vars(__builtins__) if not isinstance(__builtins__, dict) else __builtins__)
        barred -= BUILTINS
        for path in files():
            for node in ast.walk(tree_of(path)):
                if isinstance(node, ast.Name):
                    self.assertNotIn(node.id, barred, path)
                if isinstance(node, (ast.arg, ast.FunctionDef)):
                    name = node.arg if isinstance(node, ast.arg) else node.name
                    self.assertNotIn(name, BUILTINS, path)

    def test_no_warnings(self):
        for path in files():
            with warnings.catch_warnings():
                warnings.simplefilter("error")
                compile(path.read_text(encoding="utf-8"), str(path), "exec")


if __name__ == "__main__":
    unittest.main()
