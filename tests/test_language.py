"""Some of the rules for the files of the package that can be told from their text alone."""

import ast
import builtins
import io
import pathlib
import re
import tokenize
import unittest

TOP = pathlib.Path(__file__).resolve().parent.parent / "primekinds"
FILES = sorted(TOP.rglob("*.py"))
LIBRARY = ("heapq", "math", "itertools", "collections", "__future__")
# Words that no file has outside of comments and docstrings, and names that nothing has.
WORDS = (
    "type", "typing", "enum", "Enum", "Flag", "Generic", "Protocol", "ABC", "namedtuple", "dataclass", "overload",
)
NAMES = ("register", "mro", "elements", "open", "input", "law", "chr", "eval", "exec", "vars", "hash", "filter")
BUILTINS = (
    "len range enumerate zip min max sum abs sorted reversed int str bool bytes list tuple dict set frozenset "
    "isinstance ord repr any all divmod pow map iter next Exception ValueError TypeError KeyError IndexError "
    "LookupError ZeroDivisionError ArithmeticError OverflowError RuntimeError NotImplementedError NotImplemented "
    "property classmethod staticmethod super"
).split()


def trees():
    return [(path, ast.parse(path.read_text("ascii"))) for path in FILES]


def bound_names(tree):
    """All names that a file binds, those of attributes aside."""
    names = [node.id for node in ast.walk(tree) if isinstance(node, ast.Name) and not isinstance(node.ctx, ast.Load)]
    names += [node.arg for node in ast.walk(tree) if isinstance(node, ast.arg)]
    names += [node.name for node in ast.walk(tree) if isinstance(node, (ast.FunctionDef, ast.ClassDef))]
    return names


def without_words(path):
    """The text of a file without comments and docstrings."""
    text = path.read_text("ascii")
    tokens = tokenize.generate_tokens(io.StringIO(text).readline)
    return " ".join(t.string for t in tokens if t.type != tokenize.COMMENT and not t.string.startswith('"""'))


class Files(unittest.TestCase):
    def test_names_of_files(self):
        self.assertLessEqual(len(FILES), 100)
        for path in TOP.rglob("*"):
            if "__pycache__" not in path.parts:
                self.assertTrue(path.is_dir() or re.fullmatch(r"[a-z_]+\.py", path.name), path)
                self.assertTrue(path.is_file() or (path / "__init__.py").is_file(), path)

    def test_sizes_and_characters(self):
        for path, tree in trees():
            text = path.read_bytes().decode("ascii")
            self.assertEqual(set(re.findall(r"[^ -~\n]", text)), set(), path)
            lines = text.split("\n")
            self.assertLess(len(lines), 400, path)
            self.assertLessEqual(max(len(line) for line in lines), 120, path)
            for node in ast.walk(tree):
                if isinstance(node, ast.FunctionDef):
                    self.assertLessEqual(node.end_lineno - node.lineno + 1, 40, node.name)

    def test_words(self):
        for path in FILES:
            found = re.findall(r"\w+", without_words(path))
            self.assertEqual([word for word in found if word in WORDS], [], path)

    def test_module_level(self):
        allowed = (ast.Expr, ast.ImportFrom, ast.FunctionDef, ast.ClassDef, ast.Assign)
        for path, tree in trees():
            for node in tree.body:
                self.assertIsInstance(node, allowed, path)
                if isinstance(node, ast.Expr):
                    self.assertIsInstance(node.value, ast.Constant, path)


class Names(unittest.TestCase):
    def test_imports(self):
        for path, tree in trees():
            for node in ast.walk(tree):
                self.assertNotIsInstance(node, ast.Import, path)
                if isinstance(node, ast.ImportFrom):
                    inner = node.module.split(".")[0] == "primekinds"
                    self.assertTrue(inner or node.module in LIBRARY, node.module)
                    self.assertEqual((node.level, [name.asname for name in node.names if name.asname]), (0, []))
                    target = TOP.parent.joinpath(*node.module.split(".")).with_suffix(".py")
                    told = bound_names(ast.parse(target.read_text("ascii"))) if inner else []
                    for name in node.names:
                        self.assertTrue(not inner or name.name in told, (path, name.name))

    def test_no_name_is_taken_twice(self):
        for path, tree in trees():
            imported = [name.name for node in ast.walk(tree) if isinstance(node, ast.ImportFrom) for name in node.names]
            classes = [node.name for node in tree.body if isinstance(node, ast.ClassDef)]
            names = bound_names(tree)
            self.assertEqual(len(imported), len(set(imported)), path)
            self.assertEqual([name for name in names if name in imported], [], path)
            self.assertEqual([name for name in classes if names.count(name) > 1], [], path)
            used = [node.id for node in ast.walk(tree) if isinstance(node, ast.Name)]
            self.assertEqual([name for name in imported if name not in used], [], path)

    def test_builtins(self):
        for path, tree in trees():
            for name in bound_names(tree):
                self.assertFalse(name in vars(builtins) or name in NAMES, (path, name))
            for node in ast.walk(tree):
                if isinstance(node, ast.Name) and node.id in vars(builtins):
                    self.assertIn(node.id, BUILTINS, path)

    def test_no_annotations_and_no_floats(self):
        for path, tree in trees():
            for node in ast.walk(tree):
                self.assertNotIsInstance(node, (ast.AnnAssign, ast.Global, ast.AsyncFunctionDef, ast.Div), path)
                self.assertFalse(isinstance(node, ast.Constant) and isinstance(node.value, float), path)


def functions_of(tree):
    return [node for node in ast.walk(tree) if isinstance(node, ast.FunctionDef)]


def calls_of(tree, names):
    """The calls of functions by these bare names."""
    calls = [node for node in ast.walk(tree) if isinstance(node, ast.Call)]
    return [node for node in calls if isinstance(node.func, ast.Name) and node.func.id in names]


class Values(unittest.TestCase):
    def test_exponents_are_literals(self):
        for path, tree in trees():
            for node in ast.walk(tree):
                if isinstance(node, ast.BinOp) and isinstance(node.op, ast.Pow):
                    self.assertIsInstance(node.right, ast.Constant, path)
                self.assertFalse(isinstance(node, ast.AugAssign) and isinstance(node.op, ast.Pow), path)

    def test_lists_where_classes_compare(self):
        for path, tree in trees():
            for node in calls_of(tree, ("any", "all", "min", "max", "sum", "sorted")):
                self.assertFalse(any(isinstance(one, ast.GeneratorExp) for one in node.args), (path, node.lineno))

    def test_sets_are_used_at_once(self):
        for path, tree in trees():
            inner = []
            for node in calls_of(tree, ("sorted", "len")):
                inner += [id(one) for arg in node.args for one in ast.walk(arg)]
            written = [node for node in ast.walk(tree) if isinstance(node, (ast.Set, ast.SetComp))]
            sets = calls_of(tree, ("set",)) + written
            self.assertEqual([node.lineno for node in sets if id(node) not in inner], [], path)

    def test_only_plain_steps_are_added_in_place(self):
        for path, tree in trees():
            for node in ast.walk(tree):
                if isinstance(node, ast.AugAssign):
                    plain = isinstance(node.target, ast.Name) and isinstance(node.value, ast.Constant)
                    self.assertTrue(plain, (path, node.lineno))


class Classes(unittest.TestCase):
    def test_generators_have_names_of_their_own(self):
        functions = [node for _, tree in trees() for node in functions_of(tree)]
        yielding = (ast.Yield, ast.YieldFrom)
        generators = [node for node in functions if any(isinstance(one, yielding) for one in ast.walk(node))]
        names = {node.name for node in generators}
        self.assertEqual(names, {
            "members", "parts", "maps", "glues", "fillings", "rows_of_parts", "places",
            "tables_due", "tables_of_index", "fillings_below", "rows_above", "entries_below", "tables_split",
        })
        self.assertEqual([node.name for node in functions if node.name in names and node not in generators], [])
        once = [node.name for node in generators if node.name != "members"]
        self.assertEqual(len(once), len(set(once)))
        for path, tree in trees():
            stored = [
                node.id for node in ast.walk(tree) if isinstance(node, ast.Name) and not isinstance(node.ctx, ast.Load)
            ]
            self.assertEqual([name for name in stored if name in names - {"members"}], [], path)

    def test_properties_have_names_of_their_own(self):
        properties, others = set(), set()
        for _, tree in trees():
            for owner in [node for node in tree.body if isinstance(node, ast.ClassDef)]:
                for node in functions_of(owner):
                    marks = [mark.id for mark in node.decorator_list]
                    (properties if "property" in marks else others).add(node.name)
        self.assertEqual(properties & others, set())

    def test_orders_and_equality_have_one_key(self):
        for path, tree in trees():
            for owner in [node for node in tree.body if isinstance(node, ast.ClassDef)]:
                methods = {node.name: ast.unparse(node.body[-1]) for node in functions_of(owner)}
                if "__eq__" in methods:
                    key = re.fullmatch(
                        rf"return isinstance\(other, {owner.name}\) and self\.(\w+) == other\.(\w+)", methods["__eq__"]
                    )
                    self.assertIsNotNone(key, (path, owner.name))
                    told = f"return self.{key[1]} < other.{key[2]}"
                    self.assertEqual((key[1], methods.get("__lt__", told)), (key[2], told))


if __name__ == "__main__":
    unittest.main()
