"""Those rules of the program's language that a short look at the files of the package can tell."""

import ast
import builtins
import pathlib
import re
import unittest
import warnings

PACKAGE = pathlib.Path(__file__).resolve().parent.parent / "pairsayings"
FILES = sorted(PACKAGE.rglob("*.py"))
TREES = {path: ast.parse(path.read_text(encoding="utf-8")) for path in FILES}
LIBRARY = {
    "heapq": "heappush heappop heapify heapreplace heappushpop", "math": "gcd lcm isqrt comb perm factorial",
    "itertools": "product combinations permutations chain accumulate pairwise islice zip_longest",
    "collections": "defaultdict deque", "__future__": "annotations",
}
# Doctests leave the name _ among the builtins.
ALL_BUILTINS = set(dir(builtins)) - {"_"}
BUILTINS = set("""len range enumerate zip min max sum abs sorted reversed int str bool bytes list tuple
    dict set frozenset isinstance ord repr any all divmod pow getattr hasattr setattr iter next map type
    super property staticmethod classmethod Exception ValueError TypeError KeyError IndexError
    LookupError ZeroDivisionError ArithmeticError OverflowError RuntimeError NotImplementedError
    AttributeError StopIteration NotImplemented object""".split())
STATEMENTS = (ast.FunctionDef, ast.ClassDef, ast.ImportFrom, ast.Assign, ast.Expr)
BARRED = (ast.AsyncFunctionDef, ast.AsyncFor, ast.AsyncWith, ast.Await, ast.Global, ast.AnnAssign, ast.Div, ast.Import)
WORDS = """typing typing_extensions enum Enum IntEnum StrEnum Flag IntFlag Generic Protocol ABC ABCMeta namedtuple
    NamedTuple TypedDict TYPE_CHECKING abstractmethod""".split()


def nodes(kind):
    """Each node of this kind in the package, with the name of its file."""
    return [(path.name, node) for path in FILES for node in ast.walk(TREES[path]) if isinstance(node, kind)]


def bound_names(node):
    """The names that a node binds."""
    if isinstance(node, (ast.FunctionDef, ast.ClassDef)):
        return [node.name]
    if isinstance(node, ast.arg):
        return [node.arg]
    if isinstance(node, ast.Name) and isinstance(node.ctx, ast.Store):
        return [node.id]
    return []


class TestFiles(unittest.TestCase):
    def test_the_folder_holds_files_of_python_alone(self):
        for path in PACKAGE.rglob("*"):
            if "__pycache__" not in path.parts:
                self.assertTrue(path.suffix == ".py" and re.fullmatch("[a-z0-9_]+", path.stem), path)
        self.assertTrue((PACKAGE / "__init__.py").is_file())

    def test_characters_and_sizes(self):
        for path in FILES:
            text = path.read_text(encoding="utf-8")
            self.assertTrue(all(" " <= sign <= "~" or sign == "\n" for sign in text), path)
            lines = text.split("\n")
            self.assertLessEqual(len(lines), 399, path)
            self.assertLessEqual(max(len(line) for line in lines), 120, path)

    def test_no_warnings(self):
        with warnings.catch_warnings():
            warnings.simplefilter("error")
            for path in FILES:
                compile(path.read_text(encoding="utf-8"), str(path), "exec")

    def test_functions_have_at_most_40_lines(self):
        for name, node in nodes(ast.FunctionDef):
            self.assertLessEqual(node.end_lineno - node.lineno + 1, 40, (name, node.name))


class TestModules(unittest.TestCase):
    def test_statements_at_module_level(self):
        for path, tree in TREES.items():
            for node in tree.body:
                self.assertIsInstance(node, STATEMENTS, path)
                if isinstance(node, ast.Expr):
                    self.assertIsInstance(node.value, ast.Constant, path)
                if isinstance(node, ast.Assign):
                    calls = [one for one in ast.walk(node.value) if isinstance(one, (ast.Call, ast.Set))]
                    self.assertEqual(calls, [], path)

    def test_imports(self):
        for name, node in nodes(ast.ImportFrom):
            self.assertEqual(node.level, 0, name)
            self.assertTrue(all(one.asname is None for one in node.names), name)
            if node.module in LIBRARY:
                self.assertTrue({one.name for one in node.names} <= set(LIBRARY[node.module].split()), name)
            else:
                self.assertEqual(node.module.split(".")[0], "pairsayings", name)
                defined = [one for part in ast.walk(TREES[PACKAGE / (node.module.split(".")[1] + ".py")])
                           for one in bound_names(part)]
                self.assertTrue(all(one.name in defined for one in node.names), name)

    def test_what_is_barred(self):
        for kind in BARRED:
            self.assertEqual([name for name, _ in nodes(kind)], [], kind)
        for path in FILES:
            for word in WORDS:
                self.assertIsNone(re.search(rf"\b{word}\b", path.read_text(encoding="utf-8")), (path, word))

    def test_no_two_files_import_from_each_other(self):
        ahead = {path.name: set() for path in FILES}
        for name, node in nodes(ast.ImportFrom):
            if node.module.startswith("pairsayings."):
                ahead[name].add(node.module.split(".")[1] + ".py")
        while ahead:
            free = [name for name in ahead if not ahead[name]]
            self.assertTrue(free, ahead)
            ahead = {name: ahead[name] - set(free) for name in ahead if name not in free}


class TestNames(unittest.TestCase):
    def test_no_variable_is_called_as_an_import_or_a_class_of_its_file(self):
        for path, tree in TREES.items():
            taken = [one.name for node in tree.body if isinstance(node, ast.ImportFrom) for one in node.names]
            taken += [node.name for node in tree.body if isinstance(node, ast.ClassDef)]
            bound = [one for node in ast.walk(tree) if isinstance(node, (ast.arg, ast.Name))
                     for one in bound_names(node)]
            self.assertEqual(set(taken) & set(bound), set(), path)

    def test_no_method_is_called_as_an_attribute(self):
        methods = [node.name for _, part in nodes(ast.ClassDef) for node in part.body
                   if isinstance(node, ast.FunctionDef)]
        stored = [node.attr for _, node in nodes(ast.Attribute) if isinstance(node.ctx, ast.Store)]
        self.assertEqual(set(methods) & set(stored), set())

    def test_each_attribute_that_is_assigned_is_one_of_self(self):
        for name, node in nodes(ast.Attribute):
            if isinstance(node.ctx, ast.Store):
                self.assertTrue(isinstance(node.value, ast.Name) and node.value.id == "self", (name, node.lineno))

    def test_functions_of_the_library_are_only_called(self):
        for path, tree in TREES.items():
            taken = [one.name for node in tree.body if isinstance(node, ast.ImportFrom) and node.module in LIBRARY
                     for one in node.names]
            called = [node.func for node in ast.walk(tree) if isinstance(node, ast.Call) and not node.keywords]
            for node in ast.walk(tree):
                if isinstance(node, ast.Name) and node.id in taken:
                    self.assertIn(node, called, path)

    def test_stars(self):
        for name, node in nodes(ast.Subscript):
            self.assertFalse([one for one in ast.walk(node.slice) if isinstance(one, ast.Starred)], (name, node.lineno))
        for name, node in nodes(ast.BinOp):
            self.assertNotIsInstance(node.op, ast.Pow, (name, node.lineno))

    def test_no_name_is_that_of_a_builtin(self):
        for name, node in nodes((ast.FunctionDef, ast.ClassDef, ast.arg, ast.Name)):
            for one in bound_names(node):
                if not one.startswith("__"):
                    self.assertNotIn(one, ALL_BUILTINS, (name, one))

    def test_builtins_that_are_used(self):
        for name, node in nodes(ast.Name):
            if node.id in ALL_BUILTINS:
                self.assertIn(node.id, BUILTINS, name)

    def test_numbers_and_strings(self):
        for name, node in nodes(ast.Constant):
            self.assertNotIsInstance(node.value, (float, complex), name)
            if isinstance(node.value, str):
                self.assertNotIn("%", node.value, name)

    def test_these_take_lists_beside_an_own_equality(self):
        for name, node in nodes(ast.Call):
            if isinstance(node.func, ast.Name) and node.func.id in ("any", "all", "min", "max", "sum", "sorted"):
                self.assertFalse([one for one in node.args if isinstance(one, ast.GeneratorExp)], (name, node.lineno))


if __name__ == "__main__":
    unittest.main()
