"""Whether the files of the package keep to those rules of LANGUAGE.md that a short look at them can tell."""

import ast
import builtins
import importlib
import pathlib
import re
import unittest

ROOT = pathlib.Path(__file__).resolve().parent.parent / "hingeworks"
LIBRARY = {
    "heapq": {"heappush", "heappop", "heapify", "heapreplace", "heappushpop"},
    "math": {"gcd", "lcm", "isqrt", "comb", "perm", "factorial"},
    "itertools": {"product", "combinations", "permutations", "chain", "accumulate", "pairwise", "islice",
                  "zip_longest"},
    "collections": {"defaultdict"},
    "__future__": {"annotations"},
}
BUILTINS = set(
    "len range enumerate zip min max sum abs sorted reversed int str bool bytes list tuple dict set frozenset isinstance"
    " ord repr any all divmod pow getattr hasattr setattr iter next map super property staticmethod classmethod"
    " Exception ValueError TypeError KeyError IndexError LookupError ZeroDivisionError ArithmeticError OverflowError"
    " RuntimeError NotImplementedError AttributeError StopIteration NotImplemented object float".split()
)
CAUGHT = {"KeyError", "ZeroDivisionError", "StopIteration", "ValueError", "LookupError", "IndexError"}
DOUBLE = set(
    "init eq repr str len enter exit call iter lt le gt ge ne add sub mul floordiv mod pow and or xor lshift rshift radd"
    " rsub rmul rfloordiv rmod rand ror rxor rlshift rrshift iadd isub imul ifloordiv imod ipow iand ior ixor ilshift"
    " irshift neg pos invert abs bool contains getitem setitem".split()
)
BARRED = {"register", "mro", "elements", "open", "input", "law", "version_info", "with_traceback", "add_note"}
STATEMENTS = (
    ast.Assign, ast.AugAssign, ast.AnnAssign, ast.If, ast.While, ast.For, ast.Return, ast.Break, ast.Continue, ast.Pass,
    ast.Raise, ast.Assert, ast.Delete, ast.Nonlocal, ast.Match, ast.With, ast.Try, ast.Expr, ast.FunctionDef,
    ast.ClassDef, ast.ImportFrom, ast.Import,
)

# Methods of builtin values that the package calls.
BUILTIN_METHODS = {"append", "count", "extend", "index", "insert", "items", "join", "lstrip", "partition", "pop",
                   "setdefault", "split", "startswith", "bit_length", "values"}
# Names of these methods that own attributes and methods may have, too.
FREE_ATTRIBUTES = {"count", "index", "title", "find", "get", "join", "lower", "upper", "split", "strip", "copy", "add"}
FREE_METHODS = FREE_ATTRIBUTES | {"discard"}


def method_names(tree):
    """The names of the methods in a file."""
    return {row.name for node in tree.body if isinstance(node, ast.ClassDef) for row in node.body if hasattr(row, "name")}


def package_files():
    return sorted(path for path in ROOT.rglob("*") if "__pycache__" not in path.parts and path.is_file())


def bound_names(node):
    """The names that a node of the tree binds."""
    if isinstance(node, (ast.FunctionDef, ast.ClassDef)):
        return [node.name]
    if isinstance(node, ast.arg):
        return [node.arg]
    if isinstance(node, ast.Name) and isinstance(node.ctx, ast.Store):
        return [node.id]
    if isinstance(node, ast.ExceptHandler) and node.name:
        return [node.name]
    return []


class LanguageTest(unittest.TestCase):
    def setUp(self):
        self.trees = [(path, ast.parse(path.read_text("utf-8"))) for path in package_files() if path.suffix == ".py"]

    def nodes(self, *kinds):
        for path, tree in self.trees:
            for node in ast.walk(tree):
                if isinstance(node, kinds):
                    yield f"{path.name}:{getattr(node, 'lineno', 0)}", node

    def methods(self):
        """The functions that stand in the body of a class."""
        return {id(row) for _, made in self.nodes(ast.ClassDef) for row in made.body}

    def test_files_and_characters(self):
        self.assertTrue((ROOT / "__init__.py").is_file())
        for path in package_files():
            self.assertRegex(path.name, r"\A[a-z0-9_]+\.py\Z")
            text = path.read_bytes()
            self.assertEqual([sign for sign in text if sign != 10 and not 32 <= sign <= 126], [], path)
            rows = text.split(b"\n")
            self.assertLess(len(rows), 401, path)
            self.assertEqual([row for row in rows if len(row) > 120], [], path)

    def test_functions_are_short(self):
        for where, node in self.nodes(ast.FunctionDef):
            self.assertLessEqual(node.end_lineno - node.lineno + 1, 40, where)

    def test_imports(self):
        for where, node in self.nodes(ast.Import):
            self.assertTrue(where.startswith("__main__.py"), where)
        for where, node in self.nodes(ast.ImportFrom):
            self.assertEqual(node.level, 0, where)
            for name in [alias.name for alias in node.names]:
                if node.module in LIBRARY:
                    self.assertIn(name, LIBRARY[node.module], where)
                    continue
                self.assertTrue(node.module.startswith("hingeworks."), where)
                source = importlib.import_module(node.module)
                self.assertEqual(getattr(getattr(source, name), "__module__", node.module), node.module, where)

    def test_statements(self):
        for where, node in self.nodes(ast.stmt):
            self.assertIsInstance(node, STATEMENTS, where)
        for path, tree in self.trees:
            for node in tree.body:
                told = isinstance(node, ast.Expr) and isinstance(node.value, ast.Constant)
                kinds = (ast.ImportFrom, ast.Import, ast.FunctionDef, ast.ClassDef, ast.Assign, ast.AnnAssign)
                main = path.name == "__main__.py" and isinstance(node, ast.If)
                self.assertTrue(told or main or isinstance(node, kinds), (path.name, node.lineno))

    def test_decorators_and_double_underscores(self):
        methods = self.methods()
        for where, node in self.nodes(ast.FunctionDef, ast.ClassDef):
            for mark in node.decorator_list:
                plain = isinstance(mark, ast.Name) and mark.id in ("property", "staticmethod", "classmethod")
                self.assertTrue(plain or (isinstance(mark, ast.Attribute) and mark.attr == "setter"), where)
            if node.name.startswith("__"):
                self.assertIn(node.name.strip("_"), DOUBLE, where)
                self.assertIn(id(node), methods, where)

    def test_no_floats_and_no_true_division(self):
        for where, node in self.nodes(ast.Constant):
            self.assertNotIsInstance(node.value, (float, complex), where)
            if isinstance(node.value, str):
                self.assertNotIn("%", node.value, where)
        for where, node in self.nodes(ast.BinOp, ast.AugAssign):
            self.assertNotIsInstance(node.op, (ast.Div, ast.MatMult), where)

    def test_builtins(self):
        ours = {name for _, node in self.nodes(ast.AST) for name in bound_names(node)}
        for where, node in self.nodes(ast.Name):
            if isinstance(node.ctx, ast.Load) and node.id in vars(builtins) and node.id not in ours:
                allowed = node.id in BUILTINS or (node.id == "print" and where.startswith("__main__.py"))
                self.assertTrue(allowed, (where, node.id))

    def test_names(self):
        methods = self.methods()
        for where, node in self.nodes(ast.AST):
            for name in bound_names(node):
                self.assertRegex(name, r"\A(_|_?[A-Za-z][A-Za-z0-9_]*|__[a-z]+__)\Z", where)
                self.assertNotIn(name, BARRED, where)
                if id(node) not in methods:
                    self.assertNotIn(name, vars(builtins), where)
        for where, node in self.nodes(ast.Attribute):
            self.assertNotIn(node.attr, BARRED, where)

    def test_caught_errors(self):
        for where, node in self.nodes(ast.ExceptHandler):
            self.assertIsNotNone(node.type, where)
            names = node.type.elts if isinstance(node.type, ast.Tuple) else [node.type]
            for name in names:
                self.assertTrue(name.id in CAUGHT or name.id not in vars(builtins), where)

    def test_is_stands_beside_none_true_and_false(self):
        for where, node in self.nodes(ast.Compare):
            sides = [node.left, *node.comparators]
            for sign in node.ops:
                if isinstance(sign, (ast.Is, ast.IsNot)):
                    plain = [side for side in sides if isinstance(side, ast.Constant) and side.value in (None, True, False)]
                    self.assertTrue(plain, where)

    def test_lists_where_objects_are_compared(self):
        for where, node in self.nodes(ast.Call):
            if isinstance(node.func, ast.Name) and node.func.id in ("any", "all", "min", "max", "sum", "sorted"):
                self.assertEqual([part for part in node.args if isinstance(part, ast.GeneratorExp)], [], where)

    def test_what_stands_behind_a_star_in_a_call(self):
        for where, node in self.nodes(ast.Call):
            for part in node.args:
                if isinstance(part, ast.Starred):
                    self.assertIsInstance(part.value, (ast.Name, ast.Attribute, ast.List, ast.Tuple), where)

    def test_default_values(self):
        for where, node in self.nodes(ast.FunctionDef):
            self.assertTrue(all(self.is_plain(part) for part in node.args.defaults), where)

    def is_plain(self, node):
        if isinstance(node, ast.UnaryOp):
            return self.is_plain(node.operand)
        if isinstance(node, ast.Tuple):
            return all(self.is_plain(part) for part in node.elts)
        return isinstance(node, (ast.Constant, ast.BinOp, ast.Name))

    def test_imports_make_no_circle(self):
        below = {f"hingeworks.{path.stem}": [node.module for node in ast.walk(tree) if isinstance(node, ast.ImportFrom)]
                 for path, tree in self.trees}
        left = dict(below)
        while left:
            free = [name for name in left if not any(other in left for other in left[name])]
            self.assertNotEqual(free, [], sorted(left))
            for name in free:
                del left[name]

    def test_imports_are_used_and_their_names_mean_nothing_else(self):
        for path, tree in self.trees:
            imports = [alias.name for node in tree.body if isinstance(node, ast.ImportFrom) for alias in node.names]
            read = {node.id for node in ast.walk(tree) if isinstance(node, ast.Name) and isinstance(node.ctx, ast.Load)}
            self.assertEqual(sorted(set(imports)), sorted(imports), path)
            self.assertEqual([name for name in imports if name not in read], [], path)
            classes = [node.name for node in tree.body if isinstance(node, ast.ClassDef)]
            inner = [part for node in tree.body if isinstance(node, (ast.FunctionDef, ast.ClassDef))
                     for part in ast.walk(node) if part is not node]
            bound = {name for part in inner for name in bound_names(part)} - method_names(tree)
            self.assertEqual([name for name in imports + classes if name in bound], [], path)

    def test_methods_and_attributes_have_unlike_names(self):
        assigned = {node.attr for _, node in self.nodes(ast.Attribute) if isinstance(node.ctx, ast.Store)}
        methods = {row.name for _, made in self.nodes(ast.ClassDef) for row in made.body if hasattr(row, "name")}
        self.assertEqual(sorted(assigned & methods), [])
        for where, node in self.nodes(ast.Attribute):
            known = node.attr in assigned or node.attr in methods or node.attr in BUILTIN_METHODS
            self.assertTrue(known, (where, node.attr))
        builtin = {name for kind in (str, int, list, dict, set, bytes) for name in dir(kind) if not name.startswith("__")}
        self.assertEqual(sorted(assigned & (builtin | {"args", "fromhex", "format"}) - FREE_ATTRIBUTES), [])
        self.assertEqual(sorted(methods & builtin - FREE_METHODS), [])

    def test_no_generators(self):
        for where, _ in self.nodes(ast.GeneratorExp, ast.Yield, ast.YieldFrom, ast.SetComp):
            self.fail(where)

    def test_ranges_and_the_like_are_iterated_at_once(self):
        at_once = ("list", "tuple", "dict", "sorted", "sum", "any", "all", "enumerate", "zip", "min", "max", "len", "reversed", "combinations")
        for path, tree in self.trees:
            above = {id(part): node for node in ast.walk(tree) for part in ast.iter_child_nodes(node)}
            for node in ast.walk(tree):
                if not isinstance(node, ast.Call):
                    continue
                name = getattr(node.func, "id", None) or getattr(node.func, "attr", None)
                if name in ("range", "zip", "enumerate", "reversed", "items", "keys", "values"):
                    outer = above[id(node)]
                    called = isinstance(outer, ast.Call) and getattr(outer.func, "id", None) in at_once
                    iterated = isinstance(outer, (ast.For, ast.comprehension)) and outer.iter is node
                    self.assertTrue(called or iterated or isinstance(outer, ast.Compare), (path.name, node.lineno))

    def test_strings_inside_f_strings(self):
        for path, tree in self.trees:
            text = path.read_text("utf-8")
            for node in ast.walk(tree):
                if isinstance(node, ast.JoinedStr):
                    inner = [part for value in node.values if isinstance(value, ast.FormattedValue) for part in ast.walk(value.value)
                             if isinstance(part, ast.Constant) and isinstance(part.value, str)]
                    if inner:
                        row = text.split("\n")[node.lineno - 1]
                        self.assertNotIn("\\", row, (path.name, node.lineno))

    def test_words_that_do_not_occur(self):
        words = re.compile(r"_wall|_WallAttr|dataclass|overload|contextmanager")
        for path, _ in self.trees:
            self.assertIsNone(words.search(path.read_text("utf-8")), path)


if __name__ == "__main__":
    unittest.main()
