"""Rules of the language subset that can be seen in the files: sizes, signs, imports, names, and what is left out."""

import ast
import builtins
import pathlib
import re
import unittest

PACKAGE = pathlib.Path(__file__).resolve().parent.parent / "roomahead"
FILES = sorted(PACKAGE.rglob("*.py"))
BUILTINS = (
    "len range enumerate zip min max sum abs sorted reversed int str bool bytes list tuple dict set frozenset isinstance "
    "ord repr any all divmod pow getattr hasattr setattr iter next map type super property staticmethod classmethod "
    "Exception ValueError TypeError KeyError IndexError LookupError ZeroDivisionError ArithmeticError OverflowError "
    "RuntimeError NotImplementedError AttributeError StopIteration NotImplemented"
).split()
METHODS = (
    "append clear copy count endswith extend find get index insert isalnum isalpha isdigit islower isspace isupper "
    "items join keys ljust lower lstrip partition pop remove replace reverse rfind rjust rpartition rsplit rstrip "
    "setdefault split splitlines startswith strip update upper values zfill bit_length sort add discard format "
    "title capitalize swapcase casefold center expandtabs removeprefix removesuffix rindex isascii isdecimal isnumeric "
    "istitle isidentifier isprintable __init__"
).split()
# A doctest gives _ a meaning.
TAKEN = set(dir(builtins)) - {"_"}
LIBRARIES = ("heapq", "math", "itertools", "collections")
LEFT_OUT = (ast.AsyncFunctionDef, ast.AsyncFor, ast.AsyncWith, ast.Await, ast.Import, ast.Div)


def trees():
    return [(path, ast.parse(path.read_text("utf-8"))) for path in FILES]


def nodes(tree, *kinds):
    return [node for node in ast.walk(tree) if isinstance(node, kinds)]


class Files(unittest.TestCase):

    def test_sizes_and_signs(self):
        self.assertGreater(len(FILES), 3)
        for path in FILES:
            text = path.read_text("utf-8")
            self.assertRegex(text, r"\A[ -~\n]*\Z", path)
            self.assertLessEqual(len(text.split("\n")), 400, path)
            self.assertLessEqual(max(map(len, text.split("\n"))), 120, path)

    def test_the_folder_has_files_of_python_alone(self):
        others = [path for path in PACKAGE.rglob("*") if path.suffix != ".py" and "__pycache__" not in path.parts]
        self.assertEqual(others, [])
        for path in FILES:
            self.assertRegex(path.name, r"\A(__init__|[a-z][a-z0-9_]*)\.py\Z")

    def test_functions_are_short(self):
        for path, tree in trees():
            for function in nodes(tree, ast.FunctionDef):
                self.assertLessEqual(function.end_lineno - function.lineno + 1, 40, (path, function.name))

    def test_no_decorators_but_over_methods(self):
        for path, tree in trees():
            for node in tree.body:
                self.assertEqual(getattr(node, "decorator_list", []), [], path)


class Statements(unittest.TestCase):

    def test_module_level(self):
        for path, tree in trees():
            for node in tree.body:
                docstring = isinstance(node, ast.Expr) and isinstance(node.value, ast.Constant)
                kinds = (ast.ImportFrom, ast.FunctionDef, ast.ClassDef, ast.Assign)
                self.assertTrue(docstring or isinstance(node, kinds), (path, node.lineno))

    def test_imports_name_the_file_that_defines(self):
        defined = {}
        for path, tree in trees():
            names = [node.name for node in tree.body if isinstance(node, (ast.FunctionDef, ast.ClassDef))]
            names += [node.targets[0].id for node in tree.body if isinstance(node, ast.Assign)]
            defined[f"roomahead.{path.stem}"] = names
        for path, tree in trees():
            for node in nodes(tree, ast.ImportFrom):
                self.assertIn(node, tree.body, path)
                self.assertEqual([name.asname for name in node.names if name.asname], [], path)
                if node.module not in LIBRARIES:
                    self.assertEqual([name.name for name in node.names if name.name not in defined[node.module]], [])

    def test_what_is_left_out(self):
        for path, tree in trees():
            for node in nodes(tree, *LEFT_OUT):
                self.fail((path, node.lineno, type(node).__name__))
            for node in nodes(tree, ast.Constant):
                self.assertNotIsInstance(node.value, (float, complex), (path, node.lineno))
                if isinstance(node.value, str):
                    self.assertNotIn("%", node.value, (path, node.lineno))

    def test_builtins(self):
        for path, tree in trees():
            for node in nodes(tree, ast.Name):
                self.assertFalse(node.id in TAKEN and node.id not in BUILTINS, (path, node.lineno, node.id))

    def test_methods(self):
        own = {method.name for _, tree in trees() for kind in nodes(tree, ast.ClassDef) for method in kind.body
               if isinstance(method, ast.FunctionDef)}
        for path, tree in trees():
            for call in nodes(tree, ast.Call):
                if isinstance(call.func, ast.Attribute):
                    self.assertIn(call.func.attr, own | set(METHODS), (path, call.lineno))

    def test_names(self):
        for path, tree in trees():
            imported = {name.name for node in nodes(tree, ast.ImportFrom) for name in node.names}
            names = {node.arg for node in nodes(tree, ast.arg)}
            names |= {node.id for node in nodes(tree, ast.Name) if isinstance(node.ctx, ast.Store)}
            self.assertEqual(names & (imported | TAKEN), set(), path)
            for name in names - {"_"}:
                self.assertTrue(re.fullmatch("_?[A-Za-z][A-Za-z0-9_]*", name), (path, name))


if __name__ == "__main__":
    unittest.main()
