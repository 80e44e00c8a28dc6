"""The rules of the language that can be counted or looked up, for every file of the package."""

import ast
import pathlib
import re
import unittest

PACKAGE = pathlib.Path(__file__).resolve().parent.parent / "mirrordoors"
LIBRARY = {
    "heapq": ["heappush", "heappop", "heapify", "heapreplace", "heappushpop"],
    "math": ["gcd", "lcm", "isqrt", "comb", "perm", "factorial"],
    "itertools": ["product", "combinations", "permutations", "chain", "accumulate", "pairwise",
                  "islice", "zip_longest"],
    "collections": ["defaultdict"],
}
BUILTINS = (
    "len range enumerate zip min max sum abs sorted reversed int str bool list tuple dict set "
    "isinstance ord repr any all divmod pow iter next map ValueError LookupError TypeError "
    "KeyError IndexError NotImplemented super property staticmethod classmethod"
).split()
METHODS = (
    "append clear copy count endswith extend find get index insert isalnum isalpha isdigit "
    "islower isspace isupper items join keys ljust lower lstrip partition pop remove replace "
    "reverse rfind rjust rpartition rsplit rstrip setdefault split splitlines startswith strip "
    "update upper values zfill bit_length add discard __init__"
).split()
DUNDERS = ("__init__ __eq__ __repr__ __str__ __len__ __enter__ __exit__ __call__ __iter__ "
           "__contains__").split()
UNUSED_NAMES = (
    "register mro elements open input law version_info with_traceback add_note compile dir eval "
    "exec exit gc getattr globals hasattr help id locals os quit setattr sys type vars"
).split()


def files():
    return sorted(PACKAGE.rglob("*.py"))


def trees():
    return [(path.name, ast.parse(path.read_text())) for path in files()]


def nodes(kind):
    return [(name, node) for name, tree in trees() for node in ast.walk(tree)
            if isinstance(node, kind)]


def bound_names(tree):
    """Functions, classes, parameters and variables."""
    for node in ast.walk(tree):
        if isinstance(node, (ast.FunctionDef, ast.ClassDef)):
            yield node.name
        elif isinstance(node, ast.arg):
            yield node.arg
        elif isinstance(node, ast.Name) and isinstance(node.ctx, ast.Store):
            yield node.id


class LanguageTest(unittest.TestCase):
    def test_files(self):
        self.assertTrue((PACKAGE / "__init__.py").exists())
        for path in PACKAGE.rglob("*"):
            if "__pycache__" not in path.parts:
                self.assertEqual(path.suffix, ".py", path)
                self.assertRegex(path.name, r"^[a-z0-9_]+\.py$")

    def test_sizes_and_characters(self):
        for path in files():
            text = path.read_text(encoding="utf-8")
            self.assertIsNone(re.search("[^\n -~]", text), path)
            self.assertLessEqual(len(text.splitlines()), 399, path)
            for line in text.splitlines():
                self.assertLessEqual(len(line), 120, (path, line))
        for name, node in nodes(ast.FunctionDef):
            self.assertLessEqual(node.end_lineno - node.lineno + 1, 40, (name, node.name))

    def test_imports(self):
        for name, node in nodes(ast.Import):
            self.fail((name, node.lineno))
        for name, node in nodes(ast.ImportFrom):
            words = [word.name for word in node.names]
            self.assertEqual(node.level, 0)
            self.assertTrue(all(word.asname is None for word in node.names), name)
            if node.module in LIBRARY:
                self.assertTrue(set(words) <= set(LIBRARY[node.module]), name)
            else:
                self.assertTrue(node.module.startswith("mirrordoors."), name)
                origin = PACKAGE / (node.module.partition(".")[2] + ".py")
                self.assertTrue(set(words) <= set(bound_names(ast.parse(origin.read_text()))))

    def test_imports_go_one_way(self):
        ahead = {}
        for path in files():
            imported = [node.module for node in ast.walk(ast.parse(path.read_text()))
                        if isinstance(node, ast.ImportFrom)]
            ahead[path.stem] = {module.partition(".")[2] for module in imported} - {""}
        while ahead:
            first = [name for name in ahead if not ahead[name] & set(ahead)]
            self.assertTrue(first, ahead)
            for name in first:
                del ahead[name]

    def test_library(self):
        for name, tree in trees():
            taken = {word.name for node in ast.walk(tree) if isinstance(node, ast.ImportFrom)
                     if node.module in LIBRARY for word in node.names}
            calls = [node for node in ast.walk(tree) if isinstance(node, ast.Call)
                     if isinstance(node.func, ast.Name) and node.func.id in taken]
            self.assertFalse([node.lineno for node in calls if node.keywords], name)
            used = [node for node in ast.walk(tree) if isinstance(node, ast.Name) and node.id in taken]
            self.assertEqual(len(used), len(calls), name)

    def test_exponents(self):
        for name, node in nodes(ast.BinOp):
            if isinstance(node.op, ast.Pow):
                self.assertIsInstance(node.right, ast.Constant, (name, node.lineno))

    def test_sets(self):
        """A set is sorted, counted, compared, or kept by a name; it is not iterated."""
        for name, tree in trees():
            right = []
            for node in ast.walk(tree):
                if isinstance(node, ast.Call) and isinstance(node.func, ast.Name):
                    right += node.args if node.func.id in ("sorted", "len") else []
                elif isinstance(node, ast.Compare):
                    right += [node.left] + node.comparators
                elif isinstance(node, ast.Assign):
                    right.append(node.value)
            for node in ast.walk(tree):
                called = isinstance(node, ast.Call) and isinstance(node.func, ast.Name)
                if isinstance(node, (ast.Set, ast.SetComp)) or called and node.func.id == "set":
                    self.assertIn(node, right, (name, node.lineno))

    def test_statements_and_values(self):
        kinds = (ast.Global, ast.AsyncFunctionDef, ast.AsyncFor, ast.AsyncWith, ast.Await, ast.Div,
                 ast.AnnAssign)
        self.assertEqual(nodes(kinds), [])
        for name, node in nodes(ast.Constant):
            self.assertNotIsInstance(node.value, (float, complex), (name, node.lineno))
            if isinstance(node.value, str):
                self.assertNotIn("%", node.value, (name, node.lineno))

    def test_lists_where_a_class_has_its_own_equality(self):
        self.assertEqual(nodes((ast.GeneratorExp, ast.Yield, ast.YieldFrom)), [])

    def test_only_own_errors_are_caught(self):
        own = {node.name for name, node in nodes(ast.ClassDef) if name == "errors.py"}
        for name, node in nodes(ast.ExceptHandler):
            self.assertIn(node.type.id, own, (name, node.lineno))

    def test_sums_are_kept_by_plain_names(self):
        for name, node in nodes(ast.AugAssign):
            self.assertIsInstance(node.target, ast.Name, (name, node.lineno))

    def test_module_level(self):
        for name, tree in trees():
            for node in tree.body:
                docstring = isinstance(node, ast.Expr) and isinstance(node.value, ast.Constant)
                allowed = (ast.ImportFrom, ast.FunctionDef, ast.ClassDef, ast.Assign)
                self.assertTrue(docstring or isinstance(node, allowed), (name, node.lineno))

    def test_names(self):
        for name, tree in trees():
            imported = [word.name for node in ast.walk(tree) if isinstance(node, ast.ImportFrom)
                        for word in node.names]
            classes = [node.name for node in tree.body if isinstance(node, ast.ClassDef)]
            for word in bound_names(tree):
                self.assertNotIn(word, UNUSED_NAMES, name)
                self.assertNotIn(word, imported, name)
                self.assertFalse(word in BUILTINS and word not in DUNDERS, (name, word))
                self.assertFalse(word.startswith("__") and word not in DUNDERS, (name, word))
            for node in ast.walk(tree):
                if isinstance(node, ast.arg):
                    self.assertNotIn(node.arg, classes, name)

    def test_calls(self):
        own = {node.name for _, node in nodes(ast.FunctionDef)}
        for name, tree in trees():
            known = set(bound_names(tree)) | set(BUILTINS)
            for node in ast.walk(tree):
                if isinstance(node, ast.ImportFrom):
                    known |= {word.name for word in node.names}
            for node in ast.walk(tree):
                if isinstance(node, ast.Call) and isinstance(node.func, ast.Name):
                    self.assertIn(node.func.id, known, (name, node.lineno))
                elif isinstance(node, ast.Call) and isinstance(node.func, ast.Attribute):
                    self.assertIn(node.func.attr, set(METHODS) | own, (name, node.lineno))


if __name__ == "__main__":
    unittest.main()
