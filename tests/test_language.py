"""The rules of LANGUAGE.md that can be seen in a file without running it."""

import ast
import builtins
import re
import unittest
from pathlib import Path

PACKAGE = Path(__file__).resolve().parent.parent / "evenblocks"
FILES = sorted(path for path in PACKAGE.rglob("*") if path.is_file() and "__pycache__" not in path.parts)
BUILTINS = set("""len range enumerate zip min max sum abs sorted reversed int str bool bytes list tuple dict set
    frozenset isinstance ord repr any all divmod super Exception ValueError TypeError KeyError IndexError LookupError
    ZeroDivisionError ArithmeticError OverflowError RuntimeError NotImplementedError AttributeError StopIteration
    NotImplemented property staticmethod classmethod""".split())
BARRED_WORDS = re.compile(
    r"\b(type|typing|typing_extensions|enum|Enum|IntEnum|StrEnum|Flag|IntFlag|Generic|Protocol|ABC|ABCMeta|namedtuple"
    r"|NamedTuple|TypedDict|TYPE_CHECKING|abstractmethod)\b|dataclass|overload|contextmanager")
METHODS = set("""append clear copy count endswith extend find get index insert isalnum isalpha isdigit islower isspace
    isupper items join keys ljust lower lstrip partition pop remove replace reverse rfind rjust rpartition rsplit
    rstrip setdefault split splitlines startswith strip update upper values zfill bit_length title capitalize swapcase
    casefold center expandtabs removeprefix removesuffix rindex isascii isdecimal isnumeric istitle isidentifier
    isprintable translate sort add discard encode""".split())
BARRED_NODES = (ast.Global, ast.AsyncFunctionDef, ast.AsyncFor, ast.AsyncWith, ast.Await, ast.Import, ast.Div)


def trees():
    return [(path, ast.parse(path.read_text("ascii"))) for path in FILES]


def names_bound(tree):
    """Every name that a file gives a meaning to, with its line."""
    for node in ast.walk(tree):
        if isinstance(node, (ast.FunctionDef, ast.ClassDef)):
            yield node.name, node
        elif isinstance(node, ast.Name) and not isinstance(node.ctx, ast.Load):
            yield node.id, node
        elif isinstance(node, ast.arg):
            yield node.arg, node
        elif isinstance(node, ast.alias):
            yield node.asname or node.name, node
        elif isinstance(node, ast.Attribute) and not isinstance(node.ctx, ast.Load):
            yield node.attr, node


def callers(tree):
    """For each node of a file the node in which it stands."""
    return {id(part): node for node in ast.walk(tree) for part in ast.iter_child_nodes(node)}


def called(node):
    """The name of the function or method that a node calls, None for other nodes."""
    if isinstance(node, ast.Call):
        return getattr(node.func, "id", getattr(node.func, "attr", None))
    return None


def own_methods():
    return {node.name for path, tree in trees() for owner in ast.walk(tree) if isinstance(owner, ast.ClassDef)
            for node in owner.body if isinstance(node, ast.FunctionDef)}


class Files(unittest.TestCase):
    def test_names_and_signs(self):
        self.assertIn(PACKAGE / "__init__.py", FILES)
        for path in FILES:
            with self.subTest(path.name):
                self.assertRegex(path.name, r"\A(__init__|[a-z][a-z0-9_]*)\.py\Z")
                self.assertRegex(path.read_bytes(), rb"\A[ -~\n]*\Z")

    def test_sizes(self):
        for path, tree in trees():
            rows = path.read_text("ascii").split("\n")
            self.assertLessEqual(len(rows), 400, path.name)
            self.assertLessEqual(max(map(len, rows)), 120, path.name)
            for node in ast.walk(tree):
                if isinstance(node, ast.FunctionDef):
                    self.assertLessEqual(node.end_lineno - node.lineno + 1, 40, (path.name, node.name))

    def test_barred_words(self):
        for path in FILES:
            found = [row for row in path.read_text("ascii").split("\n") if BARRED_WORDS.search(row)]
            self.assertEqual(found, [], path.name)

    def test_no_percent_sign_in_strings(self):
        for path, tree in trees():
            for node in ast.walk(tree):
                if isinstance(node, ast.Constant) and isinstance(node.value, str):
                    self.assertNotIn("%", node.value, path.name)


class Code(unittest.TestCase):
    def test_barred_parts(self):
        for path, tree in trees():
            for node in ast.walk(tree):
                where = (path.name, getattr(node, "lineno", 0))
                self.assertNotIsInstance(node, BARRED_NODES, where)
                if isinstance(node, ast.Constant):
                    self.assertNotIsInstance(node.value, (float, complex), where)
                if isinstance(node, ast.Compare):
                    for sign, side in zip(node.ops, node.comparators):
                        if isinstance(sign, (ast.Is, ast.IsNot)):
                            self.assertIn(getattr(side, "value", 0), (None, True, False), where)

    def test_imports(self):
        for path, tree in trees():
            for node in ast.walk(tree):
                if isinstance(node, ast.ImportFrom):
                    self.assertIn(node, tree.body, path.name)
                    self.assertEqual(node.level, 0, path.name)
                    self.assertRegex(node.module, r"\A(evenblocks\.[a-z_]+|__future__)\Z", path.name)
                    self.assertNotIn("*", [name.name for name in node.names], path.name)

    def test_module_level(self):
        allowed = (ast.FunctionDef, ast.ClassDef, ast.ImportFrom, ast.Assign, ast.AnnAssign)
        for path, tree in trees():
            for place, node in enumerate(tree.body):
                docstring = place == 0 and isinstance(node, ast.Expr) and isinstance(node.value, ast.Constant)
                self.assertTrue(docstring or isinstance(node, allowed), (path.name, node.lineno))

    def test_names(self):
        for path, tree in trees():
            methods = own_methods()
            for name, node in names_bound(tree):
                if not (name.startswith("__") and name in methods):
                    self.assertRegex(name, r"\A[A-Za-z][A-Za-z0-9_]*\Z", (path.name, node.lineno))
                if not isinstance(node, ast.Attribute) and name not in methods:
                    self.assertFalse(hasattr(builtins, name), (path.name, node.lineno, name))

    def test_each_name_has_one_meaning(self):
        for path, tree in trees():
            bound = [name for node in tree.body for name in self.bound_by(node)]
            self.assertEqual(sorted(bound), sorted(set(bound)), path.name)
            kept = {name for node in tree.body if not isinstance(node, (ast.FunctionDef, ast.Assign))
                    for name in self.bound_by(node)}
            for name, node in names_bound(tree):
                if node not in tree.body and not isinstance(node, (ast.alias, ast.Attribute)):
                    self.assertNotIn(name, kept, (path.name, node.lineno))

    def bound_by(self, node):
        """The names that a part of a file binds at module level."""
        if isinstance(node, (ast.FunctionDef, ast.ClassDef)):
            return [node.name]
        if isinstance(node, ast.ImportFrom):
            return [name.asname or name.name for name in node.names]
        return [target.id for target in getattr(node, "targets", [])]

    def test_no_name_is_a_method_and_an_attribute(self):
        stored = {node.attr for path, tree in trees() for node in ast.walk(tree)
                  if isinstance(node, ast.Attribute) and isinstance(node.ctx, ast.Store)}
        read = {node.attr for path, tree in trees() for node in ast.walk(tree) if isinstance(node, ast.Attribute)}
        self.assertEqual(stored & own_methods(), set())
        self.assertLessEqual(read, stored | own_methods() | METHODS)

    def test_powers(self):
        for path, tree in trees():
            for node in ast.walk(tree):
                if isinstance(node, ast.Pow):
                    power = callers(tree)[id(node)].right
                    self.assertIsInstance(power, ast.Constant, path.name)
                    self.assertIn(power.value, range(65), path.name)

    def test_iterated_at_once(self):
        takers = set("list tuple dict sorted sum any all enumerate zip bytes min max join reversed len".split())
        for path, tree in trees():
            above = callers(tree)
            for node in ast.walk(tree):
                name = called(node)
                if isinstance(node, ast.GeneratorExp):
                    self.assertIn(called(above[id(node)]), takers - {"enumerate", "zip", "reversed", "len"}, path.name)
                elif name in ("zip", "enumerate", "reversed", "range", "items", "keys", "values"):
                    holder = above[id(node)]
                    looped = isinstance(holder, (ast.For, ast.comprehension)) and holder.iter == node
                    tested = isinstance(holder, ast.Compare) and isinstance(holder.ops[0], (ast.In, ast.NotIn))
                    self.assertTrue(looped or tested or called(holder) in takers, (path.name, node.lineno))

    def test_builtins(self):
        for path, tree in trees():
            for node in ast.walk(tree):
                if isinstance(node, ast.Name) and hasattr(builtins, node.id):
                    self.assertIn(node.id, BUILTINS, (path.name, node.lineno))

    def test_methods(self):
        allowed = METHODS | own_methods()
        for path, tree in trees():
            for node in ast.walk(tree):
                if isinstance(node, ast.Call) and isinstance(node.func, ast.Attribute):
                    self.assertIn(node.func.attr, allowed, (path.name, node.lineno))


if __name__ == "__main__":
    unittest.main()
