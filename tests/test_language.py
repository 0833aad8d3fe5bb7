"""The package keeps to its small subset of Python, as far as a test can see that."""

import ast
import unittest
from pathlib import Path

PACKAGE = Path(__file__).resolve().parent.parent / "shortbars"
BUILTINS = {
    "len", "range", "enumerate", "zip", "min", "max", "sum", "abs", "sorted", "reversed", "int", "str", "bool", "bytes",
    "list", "tuple", "dict", "set", "frozenset", "isinstance", "ord", "repr", "any", "all", "divmod", "Exception",
    "ValueError", "TypeError", "KeyError", "IndexError", "LookupError", "ZeroDivisionError", "ArithmeticError",
    "OverflowError", "RuntimeError", "NotImplementedError", "AttributeError", "StopIteration", "NotImplemented", "super",
}
METHODS = {
    "append", "clear", "copy", "count", "endswith", "extend", "find", "get", "index", "insert", "items", "join", "keys",
    "ljust", "lower", "lstrip", "partition", "pop", "remove", "replace", "reverse", "rfind", "rjust", "rpartition",
    "rsplit", "rstrip", "setdefault", "split", "splitlines", "startswith", "strip", "update", "upper", "values", "zfill",
    "bit_length", "isalnum", "isalpha", "isdigit", "islower", "isspace", "isupper", "sort", "add", "discard",
}
PRODUCTS = {"combinations", "permutations"}
BANNED_NODES = (
    ast.Global, ast.AsyncFunctionDef, ast.AsyncFor, ast.AsyncWith, ast.Await, ast.Yield, ast.YieldFrom, ast.Import,
    ast.Div, ast.MatMult, ast.Starred, ast.NamedExpr, ast.Nonlocal, ast.With, ast.Delete, ast.JoinedStr, ast.Assert,
)
BANNED_NAMES = {
    "register", "mro", "elements", "open", "input", "law", "version_info", "with_traceback", "add_note", "attrgetter",
    "breakpoint", "builtins", "compile", "copyright", "credits", "delattr", "dir", "eval", "exec", "exit", "gc", "getattr",
    "globals", "hasattr", "help", "id", "importlib", "license", "locals", "methodcaller", "os", "quit", "setattr", "type",
    "vars", "sys", "hash", "next", "iter", "map", "filter", "format", "round", "print", "object", "slice", "pow", "chr",
    "callable", "hex", "oct", "bin", "memoryview", "bytearray", "property", "staticmethod", "classmethod",
}
BUILTIN_NAMES = set(dir(__builtins__)) if not isinstance(__builtins__, dict) else set(__builtins__)


def files():
    return sorted(PACKAGE.glob("*.py"))


class TestFiles(unittest.TestCase):
    def test_the_folder_has_files_of_python_alone(self):
        for path in PACKAGE.rglob("*"):
            if "__pycache__" not in path.parts:
                self.assertEqual(path.suffix, ".py", path)
                self.assertEqual(path.name, path.name.lower())
        self.assertTrue((PACKAGE / "__init__.py").is_file())

    def test_sizes_and_characters(self):
        for path in files():
            text = path.read_text(encoding="utf-8")
            lines = text.split("\n")
            self.assertLessEqual(len(lines), 400, path)
            self.assertTrue(text.endswith("\n"))
            self.assertTrue(all(len(line) <= 120 for line in lines), path)
            self.assertTrue(all(line == line.rstrip() for line in lines), path)
            self.assertTrue(all(" " <= letter <= "~" or letter == "\n" for letter in text), path)
            for node in ast.walk(ast.parse(text)):
                if isinstance(node, ast.FunctionDef):
                    self.assertLessEqual(node.end_lineno - node.lineno + 1, 40, (path, node.name))


class TestLanguage(unittest.TestCase):
    def nodes(self):
        for path in files():
            for node in ast.walk(ast.parse(path.read_text(encoding="utf-8"))):
                yield path, node

    def test_no_statement_or_sign_that_is_not_wanted(self):
        for path, node in self.nodes():
            self.assertNotIsInstance(node, BANNED_NODES, path)
            if isinstance(node, (ast.FunctionDef, ast.ClassDef)):
                for decorator in node.decorator_list:
                    self.assertEqual((type(node), ast.unparse(decorator)), (ast.FunctionDef, "property"), path)
            if isinstance(node, ast.Constant):
                self.assertNotIsInstance(node.value, (float, complex), path)
                if isinstance(node.value, str):
                    self.assertNotIn("%", node.value, path)
            if isinstance(node, ast.BinOp) and isinstance(node.op, ast.Pow):
                self.assertFalse(isinstance(node.left, ast.Constant) and node.left.value == 2, path)
            if isinstance(node, ast.Compare) and any(isinstance(op, (ast.Is, ast.IsNot)) for op in node.ops):
                right = node.comparators[0]
                self.assertTrue(isinstance(right, ast.Constant) and right.value in (None, True, False), path)

    def test_names(self):
        for path, node in self.nodes():
            names = []
            if isinstance(node, ast.Name) and isinstance(node.ctx, ast.Store):
                names = [node.id]
            elif isinstance(node, (ast.FunctionDef, ast.ClassDef)):
                names = [node.name]
            elif isinstance(node, ast.arg):
                names = [node.arg]
            for name in names:
                self.assertNotIn(name, BANNED_NAMES, path)
                if name not in ("__init__", "__len__"):
                    self.assertNotIn(name, BUILTIN_NAMES, path)
                    self.assertFalse(name.startswith("__"), (path, name))

    def test_imports(self):
        defined = {path.stem: self.bound(path) for path in files()}
        edges = {}
        for path in files():
            tree = ast.parse(path.read_text(encoding="utf-8"))
            for node in ast.walk(tree):
                if isinstance(node, ast.ImportFrom):
                    self.assertIn(node, tree.body)
                    self.assertEqual(node.level, 0)
                    if node.module == "itertools":
                        self.assertTrue({name.name for name in node.names} <= PRODUCTS)
                        continue
                    package, _, module = node.module.partition(".")
                    self.assertEqual(package, "shortbars")
                    edges.setdefault(path.stem, set()).add(module)
                    for name in node.names:
                        self.assertIsNone(name.asname)
                        self.assertIn(name.name, defined[module], path)
        done = set()
        while len(done) < len(defined):
            free = [name for name in defined if name not in done and edges.get(name, set()) <= done]
            self.assertTrue(free, "files import from each other")
            done.update(free)

    def bound(self, path):
        """The names that a file defines itself."""
        names = []
        for node in ast.parse(path.read_text(encoding="utf-8")).body:
            if isinstance(node, (ast.FunctionDef, ast.ClassDef)):
                names.append(node.name)
            elif isinstance(node, ast.Assign):
                self.assertEqual(len(node.targets), 1)
                names.append(node.targets[0].id)
            else:
                plain = isinstance(node, ast.Expr) and isinstance(node.value, ast.Constant)
                self.assertTrue(plain or isinstance(node, ast.ImportFrom), path)
        self.assertEqual(len(names), len(set(names)), path)
        return names

    def test_no_local_name_is_one_of_the_file(self):
        for path in files():
            tree = ast.parse(path.read_text(encoding="utf-8"))
            imported = {name.name for node in tree.body if isinstance(node, ast.ImportFrom) for name in node.names}
            own = set(self.bound(path))
            self.assertFalse(imported & own, path)
            for node in ast.walk(tree):
                if isinstance(node, ast.FunctionDef):
                    local = {arg.arg for arg in node.args.args}
                    local |= {name.id for name in ast.walk(node)
                              if isinstance(name, ast.Name) and isinstance(name.ctx, ast.Store)}
                    self.assertFalse(local & (imported | own), (path, node.name))

    def test_calls(self):
        methods = METHODS | self.own_methods()
        known = {name for path in files() for name in self.bound(path)} | BUILTINS | PRODUCTS | {"action"}
        for path, node in self.nodes():
            if not isinstance(node, ast.Call):
                continue
            if isinstance(node.func, ast.Attribute):
                self.assertIn(node.func.attr, methods, path)
                self.assertEqual(node.keywords, [], path)
            else:
                self.assertIsInstance(node.func, ast.Name, path)
                self.assertIn(node.func.id, known, path)
                words = {"max": ["key", "default"], "min": ["key", "default"], "sorted": ["key"]}.get(node.func.id, [])
                self.assertTrue(all(word.arg in words for word in node.keywords), path)

    def own_methods(self):
        return {method.name for _, node in self.nodes() if isinstance(node, ast.ClassDef)
                for method in node.body if isinstance(method, ast.FunctionDef)}

    def test_products_are_iterated_at_once(self):
        for path in files():
            tree = ast.parse(path.read_text(encoding="utf-8"))
            made = {id(node) for node in ast.walk(tree) if isinstance(node, ast.Call)
                    and isinstance(node.func, ast.Name) and node.func.id in PRODUCTS}
            for node in ast.walk(tree):
                rows = node.generators if isinstance(node, ast.ListComp) else [node] if isinstance(node, ast.For) else []
                made -= {id(row.iter) for row in rows}
            self.assertEqual(made, set(), path)

    def test_only_own_errors_are_caught(self):
        own = set(self.bound(PACKAGE / "errors.py"))
        for path, node in self.nodes():
            if isinstance(node, ast.ExceptHandler):
                names = node.type.elts if isinstance(node.type, ast.Tuple) else [node.type]
                self.assertTrue({name.id for name in names} <= own, path)
            if isinstance(node, ast.Try):
                self.assertEqual((node.orelse, node.finalbody), ([], []), path)

    def test_properties_and_lengths_only_tell(self):
        for path, node in self.nodes():
            if isinstance(node, ast.FunctionDef) and (node.decorator_list or node.name == "__len__"):
                rows = [row for row in node.body if not isinstance(row, ast.Expr)]
                self.assertTrue(len(rows) == 1 and isinstance(rows[0], ast.Return), (path, node.name))
            if isinstance(node, ast.FunctionDef) and node.name == "__len__":
                self.assertEqual(rows[0].value.func.id, "len", path)

    def test_dicts_of_a_file_are_only_read(self):
        for path in files():
            tree = ast.parse(path.read_text(encoding="utf-8"))
            dicts = {node.targets[0].id for node in tree.body if isinstance(node, ast.Assign) and isinstance(node.value, ast.Dict)}
            dicts |= {name.name for node in tree.body if isinstance(node, ast.ImportFrom) for name in node.names
                      if name.name in ("WORDS", "FORMS", "TERMS", "ACTIONS", "SAYINGS", "LINES") and node.module != "itertools"}
            right = set()
            for node in ast.walk(tree):
                if isinstance(node, (ast.Subscript, ast.Attribute)):
                    right.add(id(node.value))
                elif isinstance(node, ast.Compare):
                    right |= {id(other) for other in node.comparators}
                elif isinstance(node, ast.Call) and isinstance(node.func, ast.Name) and node.func.id in ("list", "tuple", "dict", "len"):
                    right |= {id(argument) for argument in node.args}
                elif isinstance(node, (ast.For, ast.comprehension)):
                    right.add(id(node.iter))
            for node in ast.walk(tree):
                if isinstance(node, ast.Name) and isinstance(node.ctx, ast.Load) and node.id in dicts:
                    self.assertIn(id(node), right, (path, node.id))

    def test_sets_stay_where_they_are_made(self):
        for path in files():
            tree = ast.parse(path.read_text(encoding="utf-8"))
            allowed = set()
            for node in ast.walk(tree):
                if isinstance(node, ast.Call) and isinstance(node.func, ast.Name) and node.func.id in ("len", "sorted"):
                    allowed |= {id(argument) for argument in node.args}
            for node in ast.walk(tree):
                is_set = isinstance(node, (ast.Set, ast.SetComp)) or (
                    isinstance(node, ast.Call) and isinstance(node.func, ast.Name) and node.func.id in ("set", "frozenset"))
                if is_set:
                    self.assertIn(id(node), allowed, path)

    def test_errors_are_made_on_the_spot(self):
        for path, node in self.nodes():
            if isinstance(node, ast.Raise):
                self.assertIsInstance(node.exc, ast.Call, path)
                self.assertIsInstance(node.exc.func, ast.Name, path)
                self.assertEqual(node.exc.keywords, [], path)


if __name__ == "__main__":
    unittest.main()
