"""The rules of the language that can be seen from a file alone, so that code outside them is found here."""

import ast
import re
import unittest
from pathlib import Path

PACKAGE = Path(__file__).resolve().parent.parent / "whofirst"
FILES = sorted(PACKAGE.rglob("*.py"))
BUILTINS = set(
    "len range enumerate zip min max sum abs sorted reversed int str bool bytes list tuple dict set frozenset "
    "isinstance ord repr any all divmod Exception ValueError TypeError KeyError IndexError LookupError "
    "ZeroDivisionError ArithmeticError OverflowError RuntimeError NotImplementedError AttributeError "
    "NotImplemented".split()
)
METHODS = set(
    "append clear copy count endswith extend find get index insert isalnum isalpha isdigit islower isspace isupper "
    "items join keys ljust lower lstrip partition pop remove replace reverse rfind rjust rpartition rsplit rstrip "
    "setdefault split splitlines startswith strip update upper values zfill bit_length".split()
)
BARRED = (
    "type typing typing_extensions enum Enum IntEnum StrEnum Flag IntFlag Generic Protocol ABC ABCMeta namedtuple "
    "NamedTuple TypedDict TYPE_CHECKING abstractmethod".split()
)
UNUSED_NAMES = set(
    "register mro elements open input version_info with_traceback add_note breakpoint builtins compile copyright "
    "credits delattr dir eval exec exit gc getattr globals hasattr help id importlib license locals os quit setattr "
    "type vars sys chr next map filter hash round iter object format print property".split()
)
NOT_ALLOWED = (
    ast.Global, ast.AsyncFunctionDef, ast.Await, ast.Div, ast.AsyncFor, ast.AsyncWith,
)


def parsed(path):
    return ast.parse(path.read_text())


def bound_at_module_level(tree):
    names = []
    for node in tree.body:
        if isinstance(node, ast.ImportFrom):
            names += [one.asname or one.name for one in node.names]
        elif isinstance(node, (ast.FunctionDef, ast.ClassDef)):
            names.append(node.name)
        elif isinstance(node, ast.Assign):
            names += [target.id for target in node.targets]
    return names


def local_names(tree):
    names = {node.arg for node in ast.walk(tree) if isinstance(node, ast.arg)}
    names |= {node.name for node in ast.walk(tree) if isinstance(node, ast.ExceptHandler) and node.name}
    for function in ast.walk(tree):
        if isinstance(function, ast.FunctionDef):
            for node in ast.walk(function):
                if isinstance(node, ast.Name) and isinstance(node.ctx, ast.Store):
                    names.add(node.id)
    return names


def own_functions():
    """The names and trees of all methods of the package."""
    found = []
    for path in FILES:
        for node in ast.walk(parsed(path)):
            if isinstance(node, ast.ClassDef):
                found += [(one.name, one) for one in node.body if isinstance(one, ast.FunctionDef)]
    return found


def assigned_attributes(tree):
    found = [node for node in ast.walk(tree) if isinstance(node, ast.Attribute) and isinstance(node.ctx, ast.Store)]
    return {node.attr for node in found}


def bare_raises(tree):
    """Those in handlers, which raise again what was caught."""
    handlers = [node for node in ast.walk(tree) if isinstance(node, ast.ExceptHandler)]
    return [node for one in handlers for node in ast.walk(one) if isinstance(node, ast.Raise) and node.exc is None]


OWN_METHODS = {name for name, method in own_functions() if not name.startswith("_")}
NO_ATTRIBUTES = set(
    "items keys values pop update append clear extend insert remove reverse setdefault sort args encode decode hex "
    "fromhex format".split()
)
BUILTIN_NAMES = {name for kind in (str, int, list, dict, set, bytes, tuple) for name in dir(kind)}


class Files(unittest.TestCase):
    def test_there_are_files_and_nothing_else(self):
        self.assertTrue(FILES)
        for path in PACKAGE.iterdir():
            if path.name != "__pycache__":
                self.assertRegex(path.name, r"^[a-z0-9_]+\.py$")

    def test_sizes_and_signs(self):
        for path in FILES:
            text = path.read_text()
            lines = text.split("\n")
            self.assertLessEqual(len(lines), 400, path.name)
            self.assertLessEqual(max(map(len, lines)), 120, path.name)
            self.assertRegex(text, r"^[ -~\n]*$", path.name)
            for node in ast.walk(ast.parse(text)):
                if isinstance(node, ast.FunctionDef):
                    self.assertLessEqual(node.end_lineno - node.lineno + 1, 40, node.name)

    def test_barred_words(self):
        for path in FILES:
            text = path.read_text()
            for word in BARRED:
                self.assertIsNone(re.search(rf"\b{word}\b", text), (path.name, word))
            self.assertIsNone(re.search("dataclass|overload|contextmanager", text), path.name)


class Names(unittest.TestCase):
    def test_module_level(self):
        for path in FILES:
            tree = parsed(path)
            names = bound_at_module_level(tree)
            self.assertEqual(len(names), len(set(names)), path.name)
            kinds = (ast.ImportFrom, ast.FunctionDef, ast.ClassDef, ast.Assign)
            self.assertTrue(ast.get_docstring(tree), path.name)
            for node in tree.body[1:]:
                self.assertIsInstance(node, kinds, (path.name, node.lineno))

    def test_imports_name_the_file_that_defines(self):
        for path in FILES:
            for node in ast.walk(parsed(path)):
                self.assertNotIsInstance(node, ast.Import)
                if isinstance(node, ast.ImportFrom):
                    self.assertEqual(node.level, 0)
                    package, module = node.module.split(".")
                    self.assertEqual(package, "whofirst")
                    source = parsed(PACKAGE / f"{module}.py")
                    own = [one for one in source.body if not isinstance(one, ast.ImportFrom)]
                    own_names = bound_at_module_level(ast.Module(own, []))
                    for one in node.names:
                        self.assertIn(one.name, own_names, (path.name, one.name))

    def test_imports_are_used(self):
        for path in FILES:
            tree = parsed(path)
            used = {node.id for node in ast.walk(tree) if isinstance(node, ast.Name)}
            for node in tree.body:
                if isinstance(node, ast.ImportFrom):
                    for one in node.names:
                        self.assertIn(one.name, used, path.name)

    def test_plain_names(self):
        for path in FILES:
            tree = parsed(path)
            names = local_names(tree) | set(bound_at_module_level(tree))
            for name in names:
                self.assertRegex(name, r"^[A-Za-z][A-Za-z0-9_]*$", path.name)
            self.assertEqual(names & (UNUSED_NAMES | BUILTINS), set(), path.name)

    def test_locals_are_not_named_like_what_the_module_binds(self):
        for path in FILES:
            tree = parsed(path)
            self.assertEqual(local_names(tree) & set(bound_at_module_level(tree)), set(), path.name)

    def test_names_that_are_read_are_known(self):
        for path in FILES:
            tree = parsed(path)
            known = local_names(tree) | set(bound_at_module_level(tree)) | BUILTINS
            read = {node.id for node in ast.walk(tree) if isinstance(node, ast.Name)}
            self.assertEqual(read - known, set(), path.name)


class Expressions(unittest.TestCase):
    def test_nothing_that_is_not_allowed(self):
        for path in FILES:
            for node in ast.walk(parsed(path)):
                self.assertNotIsInstance(node, NOT_ALLOWED, path.name)
                if isinstance(node, ast.Constant):
                    self.assertNotIsInstance(node.value, (float, complex), path.name)
                    self.assertFalse(isinstance(node.value, str) and "%" in node.value, path.name)
                if isinstance(node, ast.FunctionDef):
                    self.assertEqual(node.args.posonlyargs, [], node.name)

    def test_is_stands_with_none_true_and_false_only(self):
        for path in FILES:
            for node in ast.walk(parsed(path)):
                if isinstance(node, ast.Compare):
                    for sign, right in zip(node.ops, node.comparators):
                        if isinstance(sign, (ast.Is, ast.IsNot)):
                            self.assertIsInstance(right, ast.Constant)
                            self.assertIn(right.value, (None, True, False))

    def test_methods_of_builtin_values(self):
        for path in FILES:
            for node in ast.walk(parsed(path)):
                if isinstance(node, ast.Call) and isinstance(node.func, ast.Attribute):
                    known = METHODS | OWN_METHODS | {"__init__"}
                    self.assertIn(node.func.attr, known, (path.name, node.lineno))

    def test_no_generator_expression(self):
        # A class of the document has __eq__, and beside it any, all, min, max, sum and sorted take lists.
        for path in FILES:
            for node in ast.walk(parsed(path)):
                self.assertNotIsInstance(node, ast.GeneratorExp, (path.name, getattr(node, "lineno", 0)))

    def test_errors_are_made_where_they_are_raised(self):
        for path in FILES:
            tree = parsed(path)
            for node in ast.walk(tree):
                if isinstance(node, ast.Raise) and node not in bare_raises(tree):
                    self.assertIsInstance(node.exc, ast.Call, (path.name, node.lineno))


class Classes(unittest.TestCase):
    def test_methods_and_attributes_are_apart(self):
        attributes = set()
        for path in FILES:
            attributes |= assigned_attributes(parsed(path))
        self.assertEqual(attributes & OWN_METHODS, set())
        self.assertEqual(attributes & NO_ATTRIBUTES, set())
        self.assertEqual(OWN_METHODS & BUILTIN_NAMES, set())
        for path in FILES:
            for node in ast.walk(parsed(path)):
                if isinstance(node, ast.Attribute) and not node.attr.startswith("__"):
                    self.assertIn(node.attr, attributes | OWN_METHODS | METHODS, (path.name, node.lineno))

    def test_double_underscore_methods(self):
        allowed = {"__init__", "__eq__", "__len__"}
        for name, method in own_functions():
            if name.startswith("_"):
                self.assertIn(name, allowed)
            if name in ("__eq__", "__len__"):
                kinds = (ast.Assign, ast.AugAssign, ast.For, ast.While)
                for node in ast.walk(method):
                    self.assertNotIsInstance(node, kinds, name)
            if name == "__len__":
                returned = method.body[-1].value
                self.assertEqual((len(method.body), returned.func.id), (1, "len"))

    def test_only_own_errors_are_caught(self):
        own = set(bound_at_module_level(parsed(PACKAGE / "errors.py")))
        for path in FILES:
            for node in ast.walk(parsed(path)):
                if isinstance(node, ast.ExceptHandler):
                    caught = {one.id for one in ast.walk(node.type) if isinstance(one, ast.Name)}
                    self.assertLessEqual(caught, own, path.name)

    def test_finally_only_assigns_plain_values(self):
        for path in FILES:
            for node in ast.walk(parsed(path)):
                for row in getattr(node, "finalbody", []):
                    self.assertIsInstance(row, ast.Assign)
                    self.assertIsInstance(row.value, ast.Constant)

    def test_no_two_files_import_from_each_other(self):
        imports = {}
        for path in FILES:
            named = [node.module for node in parsed(path).body if isinstance(node, ast.ImportFrom)]
            imports[path.stem] = {module.split(".")[1] for module in named}
        while imports:
            ready = [name for name in imports if not imports[name] & set(imports)]
            self.assertTrue(ready, imports)
            for name in ready:
                del imports[name]


if __name__ == "__main__":
    unittest.main()
