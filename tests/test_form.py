"""The form of the package's files: the rows of LANGUAGE.md that can be read off the text of a program."""

import ast
import builtins
import pathlib
import re
import unittest

PACKAGE = pathlib.Path(__file__).resolve().parent.parent / "rowrules"
ERRORS = """Exception ValueError TypeError KeyError IndexError LookupError ZeroDivisionError ArithmeticError
    OverflowError RuntimeError NotImplementedError AttributeError StopIteration""".split()
OWN_NAMES = """len range enumerate zip min max sum abs sorted reversed int str bool list tuple dict set frozenset
    isinstance ord repr any all divmod""".split() + ERRORS
METHODS = """append clear copy count endswith extend find get index insert isalnum isalpha isdigit islower isspace
    isupper items join keys ljust lower lstrip partition pop remove replace reverse rfind rjust rpartition rsplit
    rstrip setdefault split splitlines startswith strip update upper values zfill bit_length""".split()
TWO_UNDERSCORES = "__init__ __eq__ __repr__ __str__ __len__".split()
OUT_NAMES = """register mro elements open input version_info with_traceback add_note attrgetter breakpoint builtins
    compile copyright credits delattr dir eval exec exit gc getattr globals hasattr help id importlib license locals
    methodcaller os quit setattr super type vars sys format format_map chr print""".split()
OUT_WORDS = """type typing typing_extensions enum Enum IntEnum StrEnum Flag IntFlag Generic Protocol ABC ABCMeta
    namedtuple NamedTuple TypedDict TYPE_CHECKING abstractmethod""".split()
WALKED = "zip enumerate reversed range items keys values".split()
WALKERS = "list tuple dict sorted sum any all enumerate zip min max join".split()
KEYWORDS = {
    "sorted": ["key", "reverse"], "min": ["key", "default"], "max": ["key", "default"], "sum": ["start"],
    "enumerate": ["start"], "zip": ["strict"],
}
OUT_VALUES = "sort args encode format".split()
OUT_PARTS = ["dataclass", "overload", "contextmanager"]
TOP_NODES = (ast.ImportFrom, ast.FunctionDef, ast.ClassDef, ast.Assign)
OUT_NODES = (
    ast.Import, ast.With, ast.Match, ast.Delete, ast.Global, ast.Nonlocal, ast.Assert, ast.Yield, ast.YieldFrom,
    ast.AsyncFunctionDef, ast.AsyncFor, ast.AsyncWith, ast.Await, ast.SetComp, ast.DictComp, ast.GeneratorExp,
    ast.NamedExpr, ast.Starred, ast.Div, ast.MatMult, ast.AnnAssign,
)


def files():
    return sorted(PACKAGE.glob("*.py"))


def trees():
    return [(path.name, ast.parse(path.read_text())) for path in files()]


def nodes_of(kind):
    return [(name, node) for name, tree in trees() for node in ast.walk(tree) if isinstance(node, kind)]


def own_methods():
    return [part.name for name, node in nodes_of(ast.ClassDef) for part in node.body if isinstance(part, ast.FunctionDef)]


def bound_at_top(tree):
    names = []
    for node in tree.body:
        if isinstance(node, (ast.FunctionDef, ast.ClassDef)):
            names.append(node.name)
        if isinstance(node, ast.Assign):
            names.extend(target.id for target in node.targets)
    return names


def drawn_from(tree):
    return [node.module for node in tree.body if isinstance(node, ast.ImportFrom)]


def called(node):
    return getattr(node.func, "id", getattr(node.func, "attr", None))


def walked_on_the_spot(tree):
    """What stands behind the `in` of a walk, or first in a call that walks it."""
    found = [node.iter for node in ast.walk(tree) if isinstance(node, (ast.For, ast.comprehension))]
    for node in ast.walk(tree):
        if isinstance(node, ast.Call) and called(node) in WALKERS:
            found.extend(node.args if called(node) == "zip" else node.args[:1])
    return found


class TestForm(unittest.TestCase):
    def test_files(self):
        for path in PACKAGE.iterdir():
            if path.name != "__pycache__":
                self.assertRegex(path.name, r"^([a-z][a-z0-9_]*|__init__|__main__)\.py$")
        self.assertTrue((PACKAGE / "__init__.py").exists())

    def test_size_and_letters(self):
        for path in files():
            text = path.read_bytes().decode("ascii")
            self.assertRegex(text, r"\A[ -~\n]*\Z", path.name)
            self.assertLessEqual(len(text.splitlines()), 400, path.name)
            self.assertLessEqual(max(len(line) for line in text.splitlines()), 120, path.name)
        for name, node in nodes_of(ast.FunctionDef):
            self.assertLessEqual(node.end_lineno - node.lineno + 1, 40, (name, node.name))

    def test_words_that_stand_nowhere(self):
        for path in files():
            text = path.read_text()
            self.assertEqual([word for word in re.findall(r"\w+", text) if word in OUT_WORDS], [], path.name)
            self.assertEqual([part for part in OUT_PARTS if part in text], [], path.name)

    def test_the_top_of_a_file(self):
        for name, tree in trees():
            self.assertIsNotNone(ast.get_docstring(tree), name)
            for node in tree.body[1:]:
                self.assertIsInstance(node, TOP_NODES, name)
            names = bound_at_top(tree)
            self.assertEqual(len(names), len(set(names)), name)

    def test_imports_come_from_the_file_that_defines_the_name(self):
        tops = {f"rowrules.{name[:-3]}": bound_at_top(tree) for name, tree in trees()}
        for name, node in nodes_of(ast.ImportFrom):
            self.assertEqual(node.level, 0, name)
            for alias in node.names:
                self.assertIn(alias.name, tops[node.module], name)
                self.assertIsNone(alias.asname, name)

    def test_no_two_files_draw_from_one_another(self):
        drawn = {f"rowrules.{name[:-3]}": drawn_from(tree) for name, tree in trees()}
        self.assertEqual(drawn["rowrules.__init__"], [])
        while drawn:
            free = [name for name in drawn if not any(other in drawn for other in drawn[name])]
            self.assertNotEqual(free, [], f"these draw from one another: {sorted(drawn)}")
            drawn = {name: drawn[name] for name in drawn if name not in free}

    def test_nothing_that_is_left_out(self):
        for name, node in nodes_of(OUT_NODES):
            self.fail(f"{name}:{getattr(node, 'lineno', 0)}: {node.__class__.__name__}")
        for name, node in nodes_of((ast.For, ast.While)):
            self.assertEqual(node.orelse, [], f"{name}:{node.lineno}")
        for name, node in nodes_of(ast.Try):
            self.assertEqual(node.finalbody, [], f"{name}:{node.lineno}")
        for name, node in nodes_of(ast.Assign):
            self.assertEqual(len(node.targets), 1, f"{name}:{node.lineno}")
        for name, node in nodes_of((ast.FunctionDef, ast.ClassDef)):
            self.assertEqual(node.decorator_list, [], f"{name}:{node.lineno}")
        for name, node in nodes_of(ast.arguments):
            self.assertEqual((node.vararg, node.kwarg, node.kwonlyargs, node.posonlyargs), (None, None, [], []), name)

    def test_names(self):
        for name, node in nodes_of(ast.Name):
            here = f"{name}:{node.lineno}: {node.id}"
            self.assertRegex(node.id, r"^[A-Za-z][A-Za-z0-9_]*$", here)
            self.assertNotIn(node.id, OUT_NAMES, here)
            if hasattr(builtins, node.id):
                self.assertIn(node.id, OWN_NAMES, here)
                self.assertIsInstance(node.ctx, ast.Load, here)
        for name, node in nodes_of(ast.arg):
            self.assertRegex(node.arg, r"^[A-Za-z][A-Za-z0-9_]*$", name)
            self.assertFalse(hasattr(builtins, node.arg), f"{name}: {node.arg}")
        for name, node in nodes_of((ast.FunctionDef, ast.ClassDef)):
            if node.name not in TWO_UNDERSCORES:
                self.assertRegex(node.name, r"^[A-Za-z][A-Za-z0-9_]*$", name)

    def test_no_local_is_called_like_a_class_or_an_import(self):
        for name, tree in trees():
            taken = [node.name for node in tree.body if isinstance(node, ast.ClassDef)]
            taken += [alias.name for node in tree.body if isinstance(node, ast.ImportFrom) for alias in node.names]
            for node in ast.walk(tree):
                if isinstance(node, ast.Name) and isinstance(node.ctx, ast.Store):
                    self.assertNotIn(node.id, taken, f"{name}:{node.lineno}")
                if isinstance(node, ast.arg):
                    self.assertNotIn(node.arg, taken, f"{name}:{node.lineno}")

    def test_classes(self):
        for name, node in nodes_of(ast.ClassDef):
            self.assertLessEqual(len(node.bases), 1, f"{name}:{node.lineno}")
            for part in node.body:
                self.assertIsInstance(part, (ast.FunctionDef, ast.Pass), f"{name}:{part.lineno}")
        for name, node in nodes_of(ast.FunctionDef):
            if node.name == "__init__":
                self.assertEqual([part for part in ast.walk(node) if isinstance(part, ast.Return)], [], name)

    def test_values_of_objects(self):
        for name, node in nodes_of(ast.Attribute):
            if isinstance(node.ctx, ast.Store):
                here = f"{name}:{node.lineno}: {node.attr}"
                self.assertEqual(getattr(node.value, "id", None), "self", here)
                self.assertNotIn(node.attr, own_methods(), here)
                self.assertNotIn(node.attr, METHODS + OUT_VALUES, here)

    def test_what_a_file_keeps_at_its_top_is_only_read(self):
        for name, tree in trees():
            kept = [node.targets[0].id for node in tree.body if isinstance(node, ast.Assign)]
            for node in ast.walk(tree):
                if isinstance(node, ast.Subscript) and not isinstance(node.ctx, ast.Load):
                    self.assertNotIn(getattr(node.value, "id", None), kept, f"{name}:{node.lineno}")
                if isinstance(node, ast.Call) and isinstance(node.func, ast.Attribute):
                    if getattr(node.func.value, "id", None) in kept:
                        self.assertIn(node.func.attr, ("get", "index", "count", "items", "keys", "values"), name)
            for node in tree.body:
                if isinstance(node, ast.Assign):
                    inner = [part for part in ast.walk(node.value) if isinstance(part, (ast.List, ast.Dict))]
                    self.assertLessEqual(len(inner), 1, f"{name}:{node.lineno}")

    def test_walked_at_once(self):
        for name, tree in trees():
            walked = walked_on_the_spot(tree)
            for node in ast.walk(tree):
                if isinstance(node, ast.Call) and called(node) in WALKED:
                    self.assertIn(node, walked, f"{name}:{node.lineno}")

    def test_comprehensions_and_keywords(self):
        for name, node in nodes_of(ast.ListComp):
            self.assertEqual(len(node.generators), 1, f"{name}:{node.lineno}")
            self.assertLessEqual(len(node.generators[0].ifs), 1, f"{name}:{node.lineno}")
        for name, node in nodes_of(ast.Call):
            own = hasattr(builtins, str(called(node))) or called(node) in METHODS
            for keyword in node.keywords if own else []:
                self.assertIn(keyword.arg, KEYWORDS.get(called(node), []), f"{name}:{node.lineno}")

    def test_sets_are_not_kept(self):
        for name, node in nodes_of(ast.Set):
            self.fail(f"{name}:{node.lineno}")
        for name, node in nodes_of(ast.Assign):
            if isinstance(node.value, ast.Call):
                self.assertNotIn(called(node.value), ("set", "frozenset"), f"{name}:{node.lineno}")

    def test_methods_that_are_called(self):
        free = METHODS + own_methods() + TWO_UNDERSCORES
        for name, node in nodes_of(ast.Call):
            if isinstance(node.func, ast.Attribute):
                self.assertIn(node.func.attr, free, f"{name}:{node.lineno}")

    def test_values(self):
        for name, node in nodes_of(ast.Constant):
            here = f"{name}:{node.lineno}"
            self.assertTrue(node.value is None or isinstance(node.value, (bool, int, str)), here)
            self.assertNotIn("%", str(node.value), here)
        for name, node in nodes_of(ast.BinOp):
            if isinstance(node.op, ast.Pow):
                self.assertIsInstance(node.right, ast.Constant, f"{name}:{node.lineno}")
                self.assertIn(node.right.value, range(65), f"{name}:{node.lineno}")
        for name, node in nodes_of(ast.Compare):
            for op, side in zip(node.ops, node.comparators):
                if isinstance(op, (ast.Is, ast.IsNot)):
                    self.assertIn(repr(getattr(side, "value", 0)), ("None", "True", "False"), f"{name}:{node.lineno}")

    def test_handlers_name_their_errors(self):
        for name, node in nodes_of(ast.ExceptHandler):
            caught = node.type.elts if isinstance(node.type, ast.Tuple) else [node.type]
            for each in caught:
                self.assertIsInstance(each, ast.Name, f"{name}:{node.lineno}")
                self.assertNotIn(each.id, ("Exception", "TypeError"), f"{name}:{node.lineno}")


if __name__ == "__main__":
    unittest.main()
