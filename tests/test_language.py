"""Rules of LANGUAGE.md that a test can see: where one is broken its number is told."""

import ast
import builtins
import pathlib
import re
import unittest

PACKAGE = pathlib.Path(__file__).resolve().parent.parent / "startlog"

FILES = sorted(PACKAGE.glob("*.py"))

BARRED_WORDS = (
    "type typing typing_extensions enum Enum IntEnum StrEnum Flag IntFlag Generic Protocol ABC ABCMeta namedtuple "
    "NamedTuple TypedDict TYPE_CHECKING abstractmethod"
).split()

BARRED_PARTS = ("dataclass", "overload", "contextmanager")

BUILTINS = (
    "len range enumerate zip min max sum abs sorted reversed int str bool bytes list tuple dict set frozenset "
    "isinstance ord repr any all divmod iter next super property staticmethod classmethod "
    "Exception ValueError TypeError KeyError IndexError LookupError ZeroDivisionError ArithmeticError OverflowError "
    "RuntimeError NotImplementedError AttributeError StopIteration NotImplemented"
).split()

# What attributes aren't called, by L26 and L8.
BARRED_ATTRIBUTES = (
    "items keys values pop update append clear extend insert remove reverse setdefault sort args encode decode hex "
    "fromhex format format_map mro as_integer_ratio bit_count conjugate from_bytes is_integer to_bytes"
).split()

# The methods of builtin values that may be called, of the first list of L25.
BUILTIN_METHODS = (
    "append clear copy count endswith extend find get index insert isalnum isalpha isdigit islower isspace isupper items "
    "join keys ljust lower lstrip partition pop remove replace reverse rfind rjust rpartition rsplit rstrip setdefault "
    "split splitlines startswith strip update upper values zfill bit_length"
).split()

BARRED_STATEMENTS = (
    ast.Import, ast.Global, ast.AsyncFunctionDef, ast.AsyncFor, ast.AsyncWith, ast.Await, ast.Div, ast.MatMult,
)


def tree(path):
    return ast.parse(path.read_text(), str(path))


def nodes(path, kinds):
    return [node for node in ast.walk(tree(path)) if isinstance(node, kinds)]


def at_top(path):
    """The names that this file defines at module level, imports aside."""
    told = []
    for one in tree(path).body:
        if isinstance(one, (ast.FunctionDef, ast.ClassDef)):
            told.append(one.name)
        elif isinstance(one, ast.Assign):
            told.extend(target.id for target in one.targets)
    return told


def bound(path):
    """The names that are bound anywhere in this file, attributes aside."""
    told = [node.id for node in nodes(path, ast.Name) if isinstance(node.ctx, ast.Store)]
    told.extend(node.arg for node in nodes(path, ast.arg))
    told.extend(node.name for node in nodes(path, (ast.FunctionDef, ast.ClassDef)))
    return told


def imported(path):
    """The names that this file imports."""
    return [name.asname or name.name for one in nodes(path, ast.ImportFrom) for name in one.names]


def reached(path):
    """The files of the package that this one imports from, also through others."""
    told = []
    left = [path]
    while left:
        for one in nodes(left.pop(), ast.ImportFrom):
            other = PACKAGE / f"{one.module.partition('.')[2]}.py"
            if other not in told:
                told.append(other)
                left.append(other)
    return told


def methods():
    """The names of all methods of the package."""
    return [
        made.name for path in FILES for one in nodes(path, ast.ClassDef)
        for made in one.body if isinstance(made, ast.FunctionDef)
    ]


def attributes():
    """The names of all attributes that are assigned in the package."""
    return [
        node.attr for path in FILES for node in nodes(path, ast.Attribute) if isinstance(node.ctx, ast.Store)
    ]


class Language(unittest.TestCase):

    def test_l1_l14_files(self):
        self.assertIn("__init__.py", [path.name for path in FILES])
        self.assertLessEqual(len(FILES), 100)
        for path in PACKAGE.iterdir():
            if path.name != "__pycache__":
                self.assertRegex(path.name, r"^[a-z0-9_]+\.py$", "L1")

    def test_l14_signs_and_l10_sizes(self):
        for path in FILES:
            with self.subTest(path.name):
                text = path.read_bytes().decode("ascii")
                self.assertIsNone(re.search(r"[^ -~\n]", text), "L14")
                self.assertLessEqual(len(text.splitlines()), 399, "L10")
                self.assertLessEqual(max([0, *map(len, text.split("\n"))]), 120, "L10")
                for made in nodes(path, ast.FunctionDef):
                    self.assertLessEqual(made.end_lineno - made.lineno + 1, 40, "L10")

    def test_l2_l16_imports(self):
        for path in FILES:
            for one in nodes(path, ast.ImportFrom):
                with self.subTest(f"{path.name} {one.lineno}"):
                    self.assertEqual(one.level, 0, "L2")
                    package, dot, name = one.module.partition(".")
                    self.assertEqual((package, dot), ("startlog", "."), "L2")
                    for imported in one.names:
                        self.assertIn(imported.name, at_top(PACKAGE / f"{name}.py"), "L16")

    def test_l16_no_two_files_import_from_each_other(self):
        for path in FILES:
            self.assertNotIn(path, reached(path), "L16")

    def test_l15_locals_are_called_like_no_import_or_class(self):
        for path in FILES:
            classes = [one.name for one in nodes(path, ast.ClassDef)]
            local = [node.arg for node in nodes(path, ast.arg)]
            local.extend(node.id for node in nodes(path, ast.Name) if isinstance(node.ctx, ast.Store))
            self.assertEqual(set(local) & {*imported(path), *classes}, set(), f"L15 {path.name}")
            self.assertEqual(len(set(imported(path))), len(imported(path)), f"L15 {path.name}")
            self.assertEqual(set(imported(path)) & set(at_top(path)), set(), f"L15 {path.name}")

    def test_l18_l26_methods_and_attributes(self):
        self.assertEqual(set(methods()) & set(attributes()), set(), "L18")
        self.assertEqual(set(attributes()) & set(BARRED_ATTRIBUTES), set(), "L26")
        for path in FILES:
            for one in nodes(path, ast.ClassDef):
                names = [made.name for made in one.body if isinstance(made, ast.FunctionDef)]
                self.assertEqual(len(set(names)), len(names), "L18")

    def test_l18_l25_attributes_that_are_read(self):
        known = {*methods(), *attributes(), *BUILTIN_METHODS}
        for path in FILES:
            for one in nodes(path, ast.Attribute):
                self.assertIn(one.attr, known, f"L18 L25 {path.name} {one.lineno}")

    def test_l4_no_decorators_and_plain_defaults(self):
        for path in FILES:
            for made in nodes(path, (ast.FunctionDef, ast.ClassDef)):
                self.assertEqual(made.decorator_list, [], f"L4 {path.name} {made.lineno}")
            for made in nodes(path, ast.arguments):
                for default in [*made.defaults, *made.kw_defaults]:
                    plain = default is None or isinstance(default, (ast.Constant, ast.Name, ast.Tuple))
                    self.assertTrue(plain, f"L4 {path.name} {default and default.lineno}")
                self.assertEqual(made.posonlyargs, [], f"L4 {path.name}")

    def test_l6_finally_blocks_are_simple(self):
        for path in FILES:
            for one in nodes(path, ast.Try):
                for row in one.finalbody:
                    is_append = isinstance(row, ast.Expr) and isinstance(row.value, ast.Call)
                    is_append = is_append and getattr(row.value.func, "attr", None) in ("append", "clear")
                    self.assertTrue(is_append or isinstance(row, ast.Assign), f"L6 {path.name} {row.lineno}")

    def test_l19_errors_that_are_caught_or_raised(self):
        own = at_top(PACKAGE / "errors.py")
        for path in FILES:
            for one in nodes(path, ast.ExceptHandler):
                self.assertIn(getattr(one.type, "id", None), own, f"L19 {path.name} {one.lineno}")
            for one in nodes(path, ast.Raise):
                self.assertIn(one.exc.func.id, own, f"L19 {path.name} {one.lineno}")

    def test_l8_l22_builtins_are_called_alone(self):
        for path in FILES:
            called = [call.func for call in nodes(path, ast.Call)]
            asked = [name for call in nodes(path, ast.Call) if getattr(call.func, "id", None) == "isinstance"
                     for name in ast.walk(call.args[1])]
            bases = [base for made in nodes(path, ast.ClassDef) for base in made.bases]
            for name in nodes(path, ast.Name):
                if isinstance(name.ctx, ast.Load) and hasattr(builtins, name.id):
                    self.assertTrue(
                        any(self.is_at(name, one) for one in [*called, *asked, *bases]), f"L22 {path.name} {name.lineno}",
                    )

    def is_at(self, node, other):
        """Whether both, of two readings of one file, are one."""
        place = ("lineno", "col_offset", "end_col_offset")
        return all(getattr(node, one, None) == getattr(other, one, None) for one in place)

    def test_l27_powers_have_literal_exponents(self):
        for path in FILES:
            for one in nodes(path, ast.BinOp):
                if isinstance(one.op, ast.Pow):
                    self.assertIsInstance(one.right, ast.Constant, f"L27 {path.name} {one.lineno}")

    def test_l3_module_level(self):
        for path in FILES:
            for place, one in enumerate(tree(path).body):
                plain = isinstance(one, (ast.ImportFrom, ast.FunctionDef, ast.ClassDef, ast.Assign))
                self.assertTrue(plain or (place == 0 and isinstance(one, ast.Expr)), f"L3 {path.name} {one.lineno}")

    def test_l6_l7_statements(self):
        for path in FILES:
            self.assertEqual(nodes(path, BARRED_STATEMENTS), [], f"L6 L7 {path.name}")

    def test_l7_choices_take_lists(self):
        for path in FILES:
            for call in nodes(path, ast.Call):
                if isinstance(call.func, ast.Name) and call.func.id in ("any", "all", "min", "max", "sum", "sorted"):
                    self.assertNotIsInstance(call.args[0], ast.GeneratorExp, f"L7 {path.name} {call.lineno}")

    def test_l8_builtins(self):
        for path in FILES:
            for name in nodes(path, ast.Name):
                if isinstance(name.ctx, ast.Load) and hasattr(builtins, name.id):
                    self.assertIn(name.id, BUILTINS, f"L8 {path.name} {name.lineno}")

    def test_l12_l15_names(self):
        for path in FILES:
            for name in bound(path):
                if not re.fullmatch(r"__[a-z]+__", name):
                    self.assertFalse(name.startswith("_"), f"L12 {path.name} {name}")
                    self.assertFalse(hasattr(builtins, name), f"L15 {path.name} {name}")

    def test_l17_words(self):
        for path in FILES:
            text = path.read_text()
            for word in BARRED_WORDS:
                self.assertIsNone(re.search(rf"\b{word}\b", text), f"L17 {path.name} {word}")
            for part in BARRED_PARTS:
                self.assertNotIn(part, text, f"L17 {path.name}")

    def test_l20_is(self):
        for path in FILES:
            for compared in nodes(path, ast.Compare):
                for sign, other in zip(compared.ops, compared.comparators):
                    if isinstance(sign, (ast.Is, ast.IsNot)):
                        self.assertIsInstance(other, ast.Constant, f"L20 {path.name} {compared.lineno}")
                        self.assertIn(repr(other.value), ("None", "True", "False"), f"L20 {path.name}")

    def test_l27_strings_and_floats(self):
        for path in FILES:
            for one in nodes(path, ast.Constant):
                self.assertNotIsInstance(one.value, float, f"L7 {path.name} {one.lineno}")
                if isinstance(one.value, str):
                    self.assertNotIn("%", one.value, f"L27 {path.name} {one.lineno}")


if __name__ == "__main__":
    unittest.main()
