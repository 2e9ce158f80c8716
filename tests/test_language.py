"""Holds the package against those rules of LANGUAGE.md that are easily seen in its code."""

import ast
import builtins
import pathlib
import re
import unittest

PACKAGE = pathlib.Path(__file__).resolve().parent.parent / "toldsums"
FILES = sorted(PACKAGE.glob("*.py"))

BUILTINS = set(
    "len range enumerate zip min max sum abs sorted reversed int str bool bytes list tuple dict set frozenset "
    "isinstance ord repr any all divmod Exception ValueError TypeError KeyError IndexError LookupError "
    "ZeroDivisionError ArithmeticError OverflowError RuntimeError NotImplementedError AttributeError "
    "StopIteration".split()
)
METHODS = set(
    "append clear copy count endswith extend find get index insert isalnum isalpha isdigit islower isspace isupper "
    "items join keys ljust lower lstrip partition pop remove replace reverse rfind rjust rpartition rsplit rstrip "
    "setdefault split splitlines startswith strip update upper values zfill bit_length title capitalize swapcase "
    "casefold center expandtabs removeprefix removesuffix rindex isascii isdecimal isnumeric istitle isidentifier "
    "isprintable translate sort add discard".split()
)
BARRED_NODES = (
    ast.With, ast.Match, ast.Global, ast.Nonlocal, ast.Yield, ast.YieldFrom, ast.AsyncFunctionDef, ast.AsyncFor,
    ast.AsyncWith, ast.Await, ast.GeneratorExp, ast.NamedExpr, ast.Div, ast.MatMult, ast.Import,
)
BARRED_WORDS = re.compile(
    r"\b(type|typing|typing_extensions|enum|Enum|IntEnum|StrEnum|Flag|IntFlag|Generic|Protocol|ABC|ABCMeta|"
    r"namedtuple|NamedTuple|TypedDict|TYPE_CHECKING|abstractmethod)\b|dataclass|overload|contextmanager"
)
BARRED_NAMES = set(
    "register mro elements open input version_info with_traceback add_note attrgetter breakpoint builtins compile "
    "copyright credits delattr dir eval exec exit gc getattr globals hasattr help id importlib license locals "
    "methodcaller os quit setattr super type vars sys".split()
)
MODULE_LEVEL = (ast.ImportFrom, ast.FunctionDef, ast.ClassDef, ast.Assign)
ATTRIBUTES_LET_BY = set("count index title find get join lower upper split strip copy add".split())
DOUBLE = {"__init__", "__eq__", "__repr__", "__str__", "__len__"}


SOURCES = [(path.name, path.read_text(encoding="utf-8")) for path in FILES]
TREES = [(name, text, ast.parse(text)) for name, text in SOURCES]


def is_docstring(node):
    return isinstance(node, ast.Expr) and isinstance(node.value, ast.Constant) and isinstance(node.value.value, str)


def bound_names(tree):
    """Every name that a file binds, by whatever means."""
    names = []
    for node in ast.walk(tree):
        if isinstance(node, (ast.FunctionDef, ast.ClassDef)):
            names.append(node.name)
        elif isinstance(node, ast.Name) and isinstance(node.ctx, ast.Store):
            names.append(node.id)
        elif isinstance(node, ast.arg):
            names.append(node.arg)
        elif isinstance(node, ast.alias):
            names.append(node.asname or node.name)
    return names


class Language(unittest.TestCase):
    def test_files(self):
        self.assertIn("__init__.py", [path.name for path in FILES])
        for path in PACKAGE.iterdir():
            if path.name != "__pycache__":
                self.assertRegex(path.name, r"\A[a-z0-9_]+\.py\Z")

    def test_signs_and_size(self):
        for file, text, tree in TREES:
            with self.subTest(file=file):
                self.assertRegex(text, r"\A[ -~\n]*\Z")
                lines = text.split("\n")
                self.assertLessEqual(len(lines), 400)
                self.assertLessEqual(max(len(line) for line in lines), 120)
                for node in ast.walk(tree):
                    if isinstance(node, ast.FunctionDef):
                        self.assertLessEqual(node.end_lineno - node.lineno + 1, 40, node.name)

    def test_module_level(self):
        for file, text, tree in TREES:
            with self.subTest(file=file):
                for at, node in enumerate(tree.body):
                    if not (at == 0 and is_docstring(node)):
                        self.assertIsInstance(node, MODULE_LEVEL)

    def test_imports(self):
        modules = {path.stem for path in FILES}
        for file, text, tree in TREES:
            with self.subTest(file=file):
                for node in ast.walk(tree):
                    if isinstance(node, ast.ImportFrom):
                        self.assertEqual(node.level, 0)
                        folder, dot, module = node.module.partition(".")
                        self.assertEqual(folder, "toldsums")
                        self.assertIn(module, modules)
                        self.assertNotIn("*", [alias.name for alias in node.names])

    def test_imports_name_the_file_that_defines_the_name(self):
        defined = {}
        asked = {}
        for file, text, tree in TREES:
            module = "toldsums." + file.removesuffix(".py")
            imports = [node for node in tree.body if isinstance(node, ast.ImportFrom)]
            others = [node for node in tree.body if node not in imports]
            defined[module] = set(bound_names(ast.Module(others, [])))
            asked[module] = [(node.module, alias.name) for node in imports for alias in node.names]
        for module, names in asked.items():
            for other, name in names:
                with self.subTest(module=module, name=name):
                    self.assertIn(name, defined[other])
        # Each round takes away the files that import only from those gone; a ring would stay.
        left = dict(asked)
        while left:
            free = [module for module, names in left.items() if not any(other in left for other, name in names)]
            self.assertTrue(free, sorted(left))
            for module in free:
                del left[module]

    def test_is_stands_beside_none_and_truths_only(self):
        for file, text, tree in TREES:
            for node in ast.walk(tree):
                if isinstance(node, ast.Compare):
                    for sign, value in zip(node.ops, node.comparators):
                        if isinstance(sign, (ast.Is, ast.IsNot)):
                            with self.subTest(file=file, line=node.lineno):
                                self.assertTrue(isinstance(value, ast.Constant) and value.value in (None, True, False))

    def test_statements_and_expressions(self):
        for file, text, tree in TREES:
            with self.subTest(file=file):
                for node in ast.walk(tree):
                    self.assertNotIsInstance(node, BARRED_NODES)
                    if isinstance(node, (ast.For, ast.While)):
                        self.assertEqual(node.orelse, [])
                    elif isinstance(node, ast.Constant):
                        self.assertNotIsInstance(node.value, (float, complex))
                        if isinstance(node.value, str):
                            self.assertNotIn("\x25", node.value)
                    elif isinstance(node, (ast.FunctionDef, ast.Lambda)):
                        self.assertIsNone(node.args.vararg)
                        self.assertIsNone(node.args.kwarg)
                        self.assertEqual(node.args.posonlyargs, [])
                    if isinstance(node, (ast.FunctionDef, ast.ClassDef)):
                        self.assertEqual(node.decorator_list, [])
                    if isinstance(node, ast.ClassDef):
                        for part in node.body:
                            self.assertTrue(isinstance(part, (ast.FunctionDef, ast.Pass)) or is_docstring(part))

    def test_names(self):
        for file, text, tree in TREES:
            with self.subTest(file=file):
                self.assertIsNone(BARRED_WORDS.search(text))
                for name in bound_names(tree):
                    self.assertRegex(name, r"\A([A-Za-z][A-Za-z0-9_]*|" + "|".join(sorted(DOUBLE)) + r")\Z")
                    self.assertNotIn(name, BARRED_NAMES)
                    self.assertNotIn(name, dir(builtins))
                tops = [name for node in tree.body for name in bound_names(ast.Module([node], []))
                        if not isinstance(node, (ast.FunctionDef, ast.ClassDef))]
                tops += [node.name for node in tree.body if isinstance(node, (ast.FunctionDef, ast.ClassDef))]
                self.assertEqual(len(tops), len(set(tops)))

    def test_attributes_and_methods(self):
        methods = {part.name for file, text, tree in TREES for node in ast.walk(tree) if isinstance(node, ast.ClassDef)
                   for part in node.body if isinstance(part, ast.FunctionDef)}
        attributes = [node for file, text, tree in TREES for node in ast.walk(tree) if isinstance(node, ast.Attribute)]
        assigned = {node.attr for node in attributes if isinstance(node.ctx, ast.Store)}
        self.assertEqual(methods & assigned, set())
        of_builtins = {name for kind in (str, int, list, tuple, dict, set, bytes) for name in dir(kind)}
        self.assertEqual(assigned & of_builtins - ATTRIBUTES_LET_BY, set())
        self.assertEqual(methods & of_builtins - METHODS - DOUBLE, set())
        for node in attributes:
            with self.subTest(attribute=node.attr):
                self.assertIn(node.attr, assigned | methods | METHODS)

    def test_local_names_are_no_imports_and_no_classes(self):
        for file, text, tree in TREES:
            tops = {alias.asname or alias.name for node in tree.body if isinstance(node, ast.ImportFrom)
                    for alias in node.names}
            tops |= {node.name for node in tree.body if isinstance(node, ast.ClassDef)}
            for node in ast.walk(tree):
                if isinstance(node, (ast.FunctionDef, ast.Lambda)):
                    with self.subTest(file=file, line=node.lineno):
                        parts = node.body if isinstance(node, ast.FunctionDef) else [node.body]
                        local = bound_names(node.args) + [name for part in parts for name in bound_names(part)]
                        self.assertEqual(tops & set(local), set())

    def test_raise_makes_an_own_error_on_the_spot(self):
        errors = {node.name for file, text, tree in TREES if file == "errors.py" for node in tree.body
                  if isinstance(node, ast.ClassDef)}
        for file, text, tree in TREES:
            for node in ast.walk(tree):
                if isinstance(node, ast.Raise):
                    with self.subTest(file=file, line=node.lineno):
                        self.assertIsInstance(node.exc, ast.Call)
                        self.assertIsInstance(node.exc.func, ast.Name)
                        self.assertIn(node.exc.func.id, errors)

    def test_tables_hold_no_lists_and_no_tables(self):
        for file, text, tree in TREES:
            for node in tree.body:
                if isinstance(node, ast.Assign):
                    within = [part for part in ast.walk(node.value) if isinstance(part, (ast.List, ast.Dict))]
                    with self.subTest(file=file, line=node.lineno):
                        self.assertEqual([part for part in within if part != node.value], [])
                        self.assertEqual([part for part in ast.walk(node.value) if isinstance(part, ast.Call)], [])

    def test_builtins_and_methods(self):
        own = {node.name for file, text, tree in TREES for node in ast.walk(tree)
               if isinstance(node, ast.FunctionDef)}
        for file, text, tree in TREES:
            with self.subTest(file=file):
                for node in ast.walk(tree):
                    if isinstance(node, ast.Name) and node.id in dir(builtins):
                        self.assertIn(node.id, BUILTINS)
                    elif isinstance(node, ast.Call) and isinstance(node.func, ast.Attribute):
                        self.assertIn(node.func.attr, METHODS | own)


if __name__ == "__main__":
    unittest.main()
