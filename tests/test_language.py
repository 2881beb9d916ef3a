"""The rules of LANGUAGE.md that can be seen in the code without much ado."""

import ast
import builtins
import pathlib
import re
import unittest

PACKAGE = pathlib.Path(__file__).resolve().parent.parent / "sidedeeds"
BUILTINS = set(
    "len range enumerate zip min max sum abs sorted reversed int str bool bytes list tuple dict set frozenset "
    "isinstance ord repr any all divmod Exception ValueError TypeError KeyError IndexError LookupError "
    "ZeroDivisionError ArithmeticError OverflowError RuntimeError NotImplementedError AttributeError "
    "StopIteration NotImplemented".split())
BUILTIN_METHODS = set(
    "append clear copy count endswith extend find get index insert isalnum isalpha isdigit islower isspace isupper "
    "items join keys ljust lower lstrip partition pop remove replace reverse rfind rjust rpartition rsplit rstrip "
    "setdefault split splitlines startswith strip update upper values zfill bit_length add discard sort title "
    "capitalize swapcase casefold center expandtabs removeprefix removesuffix rindex isascii isdecimal isnumeric "
    "istitle isidentifier isprintable".split())
BARRED_NAMES = set(
    "register mro elements open input version_info with_traceback add_note attrgetter breakpoint builtins compile "
    "copyright credits delattr dir eval exec exit gc getattr globals hasattr help id importlib license locals "
    "methodcaller os quit setattr super vars sys".split())
BARRED_WORDS = re.compile(
    r"\b(type|typing|typing_extensions|enum|Enum|IntEnum|StrEnum|Flag|IntFlag|Generic|Protocol|ABC|ABCMeta|namedtuple|"
    r"NamedTuple|TypedDict|TYPE_CHECKING|abstractmethod)\b|dataclass|overload|contextmanager")
BARRED_NODES = (
    ast.Global, ast.AsyncFunctionDef, ast.AsyncFor, ast.AsyncWith, ast.Await, ast.Div, ast.MatMult, ast.Import)


def sources():
    return [(path, path.read_text(encoding="utf-8")) for path in sorted(PACKAGE.glob("*.py"))]


def trees():
    return [(path, ast.parse(text)) for path, text in sources()]


def bound_names(tree):
    """Every name that the file gives a meaning, with its line."""
    for node in ast.walk(tree):
        if isinstance(node, ast.Name) and isinstance(node.ctx, ast.Store):
            yield node.id, node.lineno
        elif isinstance(node, ast.arg):
            yield node.arg, node.lineno
        elif isinstance(node, (ast.FunctionDef, ast.ClassDef)):
            yield node.name, node.lineno
        elif isinstance(node, ast.ExceptHandler) and node.name:
            yield node.name, node.lineno
        elif isinstance(node, ast.alias):
            yield node.asname or node.name, node.lineno


class Language(unittest.TestCase):
    def test_only_python_files_stand_in_the_package(self):
        names = [path.name for path in PACKAGE.iterdir() if path.name != "__pycache__"]
        self.assertIn("__init__.py", names)
        for name in names:
            self.assertRegex(name, r"^(__init__|[a-z][a-z0-9_]*)\.py$")
            self.assertNotIn(name[:-3], dir(builtins))

    def test_sizes_and_characters(self):
        for path, text in sources():
            lines = text.split("\n")
            self.assertLessEqual(len(lines), 400, path)
            self.assertTrue(all(sign == "\n" or " " <= sign <= "~" for sign in text), path)
            for number, line in enumerate(lines, 1):
                self.assertLessEqual(len(line), 120, (path, number))
        for path, tree in trees():
            for node in ast.walk(tree):
                if isinstance(node, ast.FunctionDef):
                    self.assertLessEqual(node.end_lineno - node.lineno + 1, 40, (path, node.name))

    def test_imports(self):
        names = {path.stem for path, text in sources()}
        for path, tree in trees():
            rest = tree.body[1:] if ast.get_docstring(tree) is not None else tree.body
            heads = [isinstance(node, ast.ImportFrom) for node in rest]
            self.assertEqual(heads, sorted(heads, reverse=True), path)
            for node in ast.walk(tree):
                if isinstance(node, ast.ImportFrom):
                    self.assertEqual(node.level, 0, (path, node.lineno))
                    top, dot, module = node.module.partition(".")
                    self.assertEqual((top, dot), ("sidedeeds", "."), (path, node.lineno))
                    self.assertIn(module, names, (path, node.lineno))
                    self.assertNotIn("*", [alias.name for alias in node.names], (path, node.lineno))

    def test_imports_name_the_file_that_defines(self):
        defined = {path.stem: {node.name for node in tree.body if isinstance(node, (ast.FunctionDef, ast.ClassDef))}
                   | {target.id for node in tree.body if isinstance(node, ast.Assign) for target in node.targets}
                   for path, tree in trees()}
        for path, tree in trees():
            for node in tree.body:
                if isinstance(node, ast.ImportFrom):
                    for alias in node.names:
                        self.assertIn(alias.name, defined[node.module.partition(".")[2]], (path, node.lineno))

    def test_no_two_files_import_from_each_other(self):
        needs = {path.stem: {node.module.partition(".")[2] for node in tree.body if isinstance(node, ast.ImportFrom)}
                 for path, tree in trees()}
        while needs:
            free = {name for name in needs if not needs[name] & set(needs)}
            self.assertTrue(free, needs)
            needs = {name: needs[name] for name in needs if name not in free}

    def test_module_level(self):
        allowed = (ast.ImportFrom, ast.FunctionDef, ast.ClassDef, ast.Assign)
        for path, tree in trees():
            rest = tree.body[1:] if ast.get_docstring(tree) is not None else tree.body
            for node in rest:
                self.assertIsInstance(node, allowed, (path, node.lineno))
            names = [node.name for node in rest if isinstance(node, (ast.FunctionDef, ast.ClassDef))]
            names += [target.id for node in rest if isinstance(node, ast.Assign) for target in node.targets]
            names += [a.asname or a.name for node in rest if isinstance(node, ast.ImportFrom) for a in node.names]
            self.assertEqual(len(names), len(set(names)), path)

    def test_statements_and_values(self):
        for path, tree in trees():
            for node in ast.walk(tree):
                place = (path, getattr(node, "lineno", None))
                self.assertNotIsInstance(node, BARRED_NODES, place)
                if isinstance(node, ast.Constant):
                    self.assertNotIsInstance(node.value, (float, complex), place)
                    self.assertNotIn("%", str(node.value), place)
                if isinstance(node, ast.Compare) and any(isinstance(op, (ast.Is, ast.IsNot)) for op in node.ops):
                    self.assertTrue(all(isinstance(side, ast.Constant) for side in node.comparators), place)

    def test_names(self):
        for path, tree in trees():
            for name, line in bound_names(tree):
                self.assertRegex(name, r"^([A-Za-z][A-Za-z0-9_]*|__[a-z]+__)$", (path, line))
                self.assertNotIn(name, BARRED_NAMES, (path, line))
                self.assertNotIn(name, dir(builtins) if not name.startswith("__") else (), (path, line))

    def test_local_names_are_no_imports_or_classes(self):
        for path, tree in trees():
            taken = {alias.name for node in tree.body if isinstance(node, ast.ImportFrom) for alias in node.names}
            taken |= {node.name for node in tree.body if isinstance(node, ast.ClassDef)}
            for outer in ast.walk(tree):
                if isinstance(outer, ast.FunctionDef):
                    for name, line in bound_names(outer):
                        self.assertNotIn(name, taken, (path, line))

    def test_builtins_and_methods(self):
        for path, tree in trees():
            bound = {name for name, line in bound_names(tree)}
            attributes = {node.attr for other, inner in trees() for node in ast.walk(inner)
                          if isinstance(node, ast.Attribute) and isinstance(node.ctx, ast.Store)}
            methods = {node.name for other, inner in trees() for outer in ast.walk(inner)
                       if isinstance(outer, ast.ClassDef) for node in outer.body if isinstance(node, ast.FunctionDef)}
            for node in ast.walk(tree):
                if isinstance(node, ast.Name) and isinstance(node.ctx, ast.Load) and node.id not in bound:
                    self.assertIn(node.id, BUILTINS, (path, node.lineno))
                if isinstance(node, ast.Attribute):
                    self.assertIn(node.attr, BUILTIN_METHODS | attributes | methods, (path, node.lineno))

    def test_no_name_is_a_method_and_an_attribute(self):
        nodes = [node for path, tree in trees() for node in ast.walk(tree)]
        methods = {inner.name for node in nodes if isinstance(node, ast.ClassDef) for inner in node.body
                   if isinstance(inner, ast.FunctionDef)}
        stored = {node.attr for node in nodes if isinstance(node, ast.Attribute) and isinstance(node.ctx, ast.Store)}
        self.assertIn("__init__", methods)
        self.assertEqual(methods & stored, set())
        self.assertEqual((methods | stored) & {name for kind in (str, int, list, dict, set, bytes) for name in dir(kind)
                                               if not name.startswith("__")}, set())

    def test_barred_words(self):
        for path, text in sources():
            self.assertIsNone(BARRED_WORDS.search(text), path)


if __name__ == "__main__":
    unittest.main()
