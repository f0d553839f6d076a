"""The form of the package's own files: what of LANGUAGE.md can be seen without much ado."""

import ast
import builtins
import pathlib
import re
import unittest

PACKAGE = pathlib.Path(__file__).resolve().parent.parent / "smallcode"

BUILT_IN = set(
    "len range enumerate zip min max sum abs sorted reversed int str bool list tuple dict set frozenset isinstance ord"
    " repr any all divmod Exception ValueError TypeError KeyError IndexError LookupError ZeroDivisionError"
    " ArithmeticError OverflowError RuntimeError NotImplementedError AttributeError StopIteration".split())

OWN_METHODS = set(
    "append clear copy count endswith extend find get index insert isalnum isalpha isdigit islower isspace isupper"
    " items join keys ljust lower lstrip partition pop remove replace reverse rfind rjust rpartition rsplit rstrip"
    " setdefault split splitlines startswith strip update upper values zfill bit_length".split())

NODES_OUT = (
    ast.With, ast.Match, ast.Delete, ast.Global, ast.Nonlocal, ast.Assert, ast.Yield, ast.YieldFrom, ast.Await,
    ast.AsyncFunctionDef, ast.AsyncFor, ast.AsyncWith, ast.SetComp, ast.DictComp, ast.GeneratorExp, ast.NamedExpr,
    ast.Starred, ast.Div, ast.Import, ast.AnnAssign, ast.MatMult)

WORDS_OUT = re.compile(
    r"\b(type|typing|typing_extensions|enum|Enum|IntEnum|StrEnum|Flag|IntFlag|Generic|Protocol|ABC|ABCMeta|namedtuple"
    r"|NamedTuple|TypedDict|TYPE_CHECKING|abstractmethod)\b|dataclass|overload|contextmanager")

NAMES_OUT = {"register", "mro", "elements", "open", "input", "version_info", "with_traceback", "add_note", "format",
             "format_map"}

VALUES_OUT = {"items", "keys", "values", "pop", "update", "append", "clear", "extend", "insert", "remove", "reverse",
              "setdefault", "sort", "args", "encode", "format"}

METHODS_WITH_UNDERSCORES = {"__init__", "__eq__", "__repr__", "__str__", "__len__"}


def bound_names(tree):
    """Every name that's given a meaning in the file, but imports."""
    for node in ast.walk(tree):
        if isinstance(node, (ast.FunctionDef, ast.ClassDef)):
            yield node.name
        elif isinstance(node, ast.arg):
            yield node.arg
        elif isinstance(node, (ast.Name, ast.Attribute)) and isinstance(node.ctx, ast.Store):
            yield node.id if isinstance(node, ast.Name) else node.attr


class Form(unittest.TestCase):
    def files(self):
        for path in sorted(PACKAGE.iterdir()):
            if path.name != "__pycache__":
                text = path.read_text(encoding="utf-8")
                yield path, text, ast.parse(text)

    def test_files(self):
        names = [path.name for path, _, _ in self.files()]
        self.assertIn("__init__.py", names)
        for name in names:
            self.assertRegex(name, r"^([a-z][a-z0-9_]*|__init__)\.py$")

    def test_signs_and_size(self):
        for path, text, tree in self.files():
            self.assertRegex(text, r"^[ -~\n]*$", path.name)
            rows = text.splitlines()
            self.assertLessEqual(len(rows), 400, path.name)
            self.assertLessEqual(max(len(row) for row in rows), 120, path.name)
            for node in ast.walk(tree):
                if isinstance(node, ast.FunctionDef):
                    self.assertLessEqual(node.end_lineno - node.lineno + 1, 40, node.name)

    def test_words(self):
        for path, text, _ in self.files():
            self.assertIsNone(WORDS_OUT.search(text), path.name)

    def test_imports_draw_from_the_defining_file_and_never_in_a_ring(self):
        drawn = {}
        for path, _, tree in self.files():
            drawn[path.stem] = []
            for node in tree.body:
                if isinstance(node, ast.ImportFrom):
                    self.assertEqual(node.level, 0)
                    source = PACKAGE / (node.module.removeprefix("smallcode.") + ".py")
                    self.assertTrue(source.is_file(), node.module)
                    defined = set(bound_names(ast.parse(source.read_text())))
                    self.assertLessEqual({name.name for name in node.names}, defined)
                    drawn[path.stem].append(source.stem)
        self.assertEqual(drawn["__init__"], [])
        while drawn:
            free = [name for name, sources in drawn.items() if not set(sources) & set(drawn)]
            self.assertTrue(free, f"a ring among {sorted(drawn)}")
            drawn = {name: sources for name, sources in drawn.items() if name not in free}

    def test_statements_and_expressions(self):
        for path, _, tree in self.files():
            for node in ast.walk(tree):
                self.assertNotIsInstance(node, NODES_OUT, f"{path.name} {getattr(node, 'lineno', '')}")
                if isinstance(node, (ast.For, ast.While)):
                    self.assertEqual(node.orelse, [])
                if isinstance(node, ast.Assign):
                    self.assertEqual(len(node.targets), 1)
                if isinstance(node, (ast.FunctionDef, ast.ClassDef)):
                    self.assertEqual(node.decorator_list, [])
                if isinstance(node, ast.Constant):
                    self.assertNotIsInstance(node.value, (float, bytes, complex))

    def test_names(self):
        for path, _, tree in self.files():
            for name in bound_names(tree):
                if name not in METHODS_WITH_UNDERSCORES:
                    self.assertRegex(name, r"^[A-Za-z][A-Za-z0-9_]*$", path.name)
                self.assertNotIn(name, NAMES_OUT, path.name)
                self.assertFalse(name in vars(builtins), f"{path.name} {name}")

    def test_built_in_names_that_are_used(self):
        for path, _, tree in self.files():
            for node in ast.walk(tree):
                if isinstance(node, ast.Name) and node.id in vars(builtins):
                    self.assertIn(node.id, BUILT_IN, path.name)

    def test_methods_that_are_called(self):
        own = {node.name for _, _, tree in self.files() for node in ast.walk(tree) if isinstance(node, ast.FunctionDef)}
        for path, _, tree in self.files():
            for node in ast.walk(tree):
                if isinstance(node, ast.Call) and isinstance(node.func, ast.Attribute):
                    self.assertIn(node.func.attr, OWN_METHODS | own, path.name)

    def test_no_name_is_a_method_and_a_value(self):
        methods = set()
        stored = set()
        for _, _, tree in self.files():
            for node in ast.walk(tree):
                if isinstance(node, ast.ClassDef):
                    methods.update(each.name for each in node.body if isinstance(each, ast.FunctionDef))
                elif isinstance(node, ast.Attribute) and isinstance(node.ctx, ast.Store):
                    stored.add(node.attr)
        self.assertFalse(methods & stored)
        self.assertFalse(stored & VALUES_OUT)

    def test_no_parameter_and_no_local_is_called_like_an_import_or_a_class(self):
        for path, _, tree in self.files():
            taken = {node.name for node in tree.body if isinstance(node, ast.ClassDef)}
            for node in tree.body:
                if isinstance(node, ast.ImportFrom):
                    taken.update(name.name for name in node.names)
            for node in ast.walk(tree):
                if isinstance(node, ast.arg):
                    self.assertNotIn(node.arg, taken, path.name)
                elif isinstance(node, ast.Name) and isinstance(node.ctx, ast.Store):
                    self.assertNotIn(node.id, taken, path.name)

    def test_each_name_once_at_the_top(self):
        for path, _, tree in self.files():
            names = []
            for node in tree.body:
                if isinstance(node, (ast.FunctionDef, ast.ClassDef)):
                    names.append(node.name)
                elif isinstance(node, ast.Assign):
                    names.append(node.targets[0].id)
                    ast.literal_eval(node.value)
                elif isinstance(node, ast.ImportFrom):
                    names.extend(name.name for name in node.names)
            self.assertEqual(len(names), len(set(names)), path.name)


if __name__ == "__main__":
    unittest.main()
