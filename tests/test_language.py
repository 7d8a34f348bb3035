"""The package's files keep to the subset of Python that it is written in (the rules that a look at the files can tell)."""

import ast
import builtins
import pathlib
import re
import unittest

PACKAGE = pathlib.Path(__file__).resolve().parent.parent / "commonhouse"

BUILTINS = set(
    "len range enumerate zip min max sum abs sorted reversed int str bool bytes list tuple dict set frozenset isinstance "
    "ord repr any all divmod iter next Exception ValueError TypeError KeyError IndexError LookupError ZeroDivisionError "
    "ArithmeticError OverflowError RuntimeError NotImplementedError AttributeError StopIteration NotImplemented "
    "property staticmethod classmethod super object".split()
)
BARRED_WORDS = re.compile(
    r"\b(type|typing|typing_extensions|enum|Enum|IntEnum|StrEnum|Flag|IntFlag|Generic|Protocol|ABC|ABCMeta|namedtuple"
    r"|NamedTuple|TypedDict|TYPE_CHECKING|abstractmethod)\b|dataclass|overload|contextmanager"
)
BARRED_NAMES = set(
    "register mro elements open input version_info with_traceback add_note attrgetter breakpoint builtins compile copyright "
    "credits delattr dir eval exec exit gc getattr globals hasattr help id importlib license locals methodcaller os quit "
    "setattr type vars sys".split()
)
DOUBLE = set("__init__ __eq__ __repr__ __str__ __len__ __enter__ __exit__ __call__ __iter__".split())
METHODS = set(
    "append clear copy count endswith extend find get index insert isalnum isalpha isdigit islower isspace isupper items "
    "join keys ljust lower lstrip partition pop remove replace reverse rfind rjust rpartition rsplit rstrip setdefault "
    "split splitlines startswith strip update upper values zfill bit_length add discard sort isascii isdecimal "
    "removeprefix removesuffix __init__".split()
)
BARRED_NODES = (
    ast.Global, ast.AsyncFunctionDef, ast.AsyncFor, ast.AsyncWith, ast.Await, ast.Import, ast.Div, ast.MatMult,
)


def files():
    return sorted(path for path in PACKAGE.rglob("*") if "__pycache__" not in path.parts)


def trees():
    for path in files():
        if path.is_file():
            yield path, ast.parse(path.read_text(encoding="utf-8"))


def bound_names(tree):
    """Names that functions bind: parameters, targets, nested functions."""
    for node in ast.walk(tree):
        if isinstance(node, ast.arg):
            yield node.arg, node.lineno
        if isinstance(node, ast.Name) and isinstance(node.ctx, (ast.Store, ast.Del)):
            yield node.id, node.lineno
        if isinstance(node, ast.ExceptHandler) and node.name:
            yield node.name, node.lineno


def imported(tree):
    for node in tree.body:
        if isinstance(node, ast.ImportFrom) and node.module != "__future__":
            for alias in node.names:
                yield node.module, alias.name, alias.asname


def top_names(tree):
    for node in tree.body:
        if isinstance(node, (ast.FunctionDef, ast.ClassDef)):
            yield node.name
        if isinstance(node, ast.Assign):
            for target in node.targets:
                yield target.id


class Files(unittest.TestCase):
    def test_only_plain_files(self):
        self.assertTrue((PACKAGE / "__init__.py").is_file())
        for path in files():
            self.assertTrue(path.is_dir() or re.fullmatch(r"[a-z0-9_]+\.py", path.name), path)

    def test_signs_lines_and_length(self):
        for path, _ in trees():
            text = path.read_text(encoding="utf-8")
            self.assertTrue(all(sign == "\n" or " " <= sign <= "~" for sign in text), path)
            lines = text.split("\n")
            self.assertLessEqual(len(lines), 400, path)
            self.assertTrue(all(len(line) <= 120 for line in lines), path)
            self.assertIsNone(BARRED_WORDS.search(text), path)

    def test_functions_are_short(self):
        for path, tree in trees():
            for node in ast.walk(tree):
                if isinstance(node, ast.FunctionDef):
                    self.assertLessEqual(node.end_lineno - node.lineno + 1, 40, (path, node.name))


class Modules(unittest.TestCase):
    def test_module_level(self):
        allowed = (ast.ImportFrom, ast.FunctionDef, ast.ClassDef, ast.Assign)
        for path, tree in trees():
            for at, node in enumerate(tree.body):
                is_docstring = at == 0 and isinstance(node, ast.Expr) and isinstance(node.value, ast.Constant)
                self.assertTrue(is_docstring or isinstance(node, allowed), (path, node.lineno))
            names = list(top_names(tree)) + [name for _, name, _ in imported(tree)]
            self.assertEqual(len(names), len(set(names)), path)

    def test_imports_name_the_file_that_defines_the_name(self):
        defined = {"commonhouse." + path.stem: set(top_names(tree)) for path, tree in trees()}
        for path, tree in trees():
            for module, name, other in imported(tree):
                self.assertIn(name, defined.get(module, ()), path)
                self.assertIsNone(other, path)

    def test_no_import_leads_back(self):
        above = {"commonhouse." + path.stem: {module for module, _, _ in imported(tree)} for path, tree in trees()}
        done = set()
        while len(done) < len(above):
            ready = [module for module in above if module not in done and above[module] <= done]
            self.assertTrue(ready, sorted(set(above) - done))
            done.update(ready)

    def test_imported_names_are_used(self):
        for path, tree in trees():
            used = {node.id for node in ast.walk(tree) if isinstance(node, ast.Name)}
            for _, name, _ in imported(tree):
                self.assertIn(name, used, path)


class Names(unittest.TestCase):
    def test_bound_names(self):
        for path, tree in trees():
            taken = {name for _, name, _ in imported(tree)} | set(dir(builtins)) | BARRED_NAMES
            taken |= {node.name for node in tree.body if isinstance(node, ast.ClassDef)}
            for name, line in bound_names(tree):
                self.assertNotIn(name, taken, (path, line))
                self.assertFalse(name.startswith("_"), (path, line))

    def test_functions_and_classes(self):
        for path, tree in trees():
            for node in ast.walk(tree):
                if isinstance(node, (ast.FunctionDef, ast.ClassDef)):
                    self.assertNotIn(node.name, BARRED_NAMES | set(dir(builtins)), (path, node.lineno))
                    self.assertTrue(not node.name.startswith("_") or node.name in DOUBLE, (path, node.lineno))

    def test_builtins(self):
        for path, tree in trees():
            for node in ast.walk(tree):
                if isinstance(node, ast.Name) and hasattr(builtins, node.id):
                    self.assertIn(node.id, BUILTINS, (path, node.lineno))


class Expressions(unittest.TestCase):
    @classmethod
    def setUpClass(cls):
        cls.found = [
            ((path.name, getattr(node, "lineno", None)), node) for path, tree in trees() for node in ast.walk(tree)
        ]

    def nodes(self):
        return self.found

    def test_no_barred_nodes(self):
        for place, node in self.nodes():
            self.assertNotIsInstance(node, BARRED_NODES, place)

    def test_literals(self):
        for place, node in self.nodes():
            if isinstance(node, ast.Constant):
                self.assertNotIsInstance(node.value, (float, complex), place)
                if isinstance(node.value, str):
                    self.assertNotIn("%", node.value, place)

    def test_is_stands_beside_none_true_false(self):
        for place, node in self.nodes():
            if isinstance(node, ast.Compare):
                for sign, right in zip(node.ops, node.comparators):
                    if isinstance(sign, (ast.Is, ast.IsNot)):
                        self.assertTrue(isinstance(right, ast.Constant) and right.value in (None, True, False), place)

    def test_powers_have_literal_exponents(self):
        for place, node in self.nodes():
            if isinstance(node, ast.BinOp) and isinstance(node.op, ast.Pow):
                self.assertIsInstance(node.right, ast.Constant, place)

    def test_methods_of_builtin_values(self):
        own = {node.name for _, node in self.nodes() if isinstance(node, ast.FunctionDef)}
        for place, node in self.nodes():
            if isinstance(node, ast.Call) and isinstance(node.func, ast.Attribute):
                self.assertIn(node.func.attr, METHODS | own, place)

    def test_generator_expressions_stand_in_builtins(self):
        allowed = {"list", "tuple", "dict", "sorted", "sum", "min", "max", "any", "all", "next"}
        for place, node in self.nodes():
            for child in ast.iter_child_nodes(node):
                if isinstance(child, ast.GeneratorExp):
                    self.assertIsInstance(node, ast.Call, place)
                    name = node.func.id if isinstance(node.func, ast.Name) else node.func.attr
                    self.assertIn(name, allowed | {"join"}, place)

    def test_what_is_iterated_at_once(self):
        wanted = {"list", "tuple", "dict", "sorted", "sum", "any", "all", "enumerate", "zip", "min", "max", "len", "reversed"}
        good = []
        for _, node in self.nodes():
            if isinstance(node, (ast.For, ast.comprehension)):
                good.append(node.iter)
            if isinstance(node, ast.Call) and isinstance(node.func, ast.Name) and node.func.id in wanted:
                good.extend(node.args)
            if isinstance(node, ast.Compare):
                good.extend(node.comparators)
        for place, node in self.nodes():
            if isinstance(node, ast.Call) and isinstance(node.func, ast.Name):
                if node.func.id in ("zip", "enumerate", "reversed", "range"):
                    self.assertTrue(any(node is one for one in good), place)


if __name__ == "__main__":
    unittest.main()
