"""The rules of LANGUAGE.md that can be seen in the files of the package."""

import ast
import builtins
import pathlib
import re
import unittest

ROOT = pathlib.Path(__file__).resolve().parent.parent
PACKAGE = ROOT / "oncework"
FILES = sorted(path for path in PACKAGE.rglob("*") if path.is_file() and path.suffix != ".pyc")
TREES = {path: ast.parse(path.read_text(encoding="utf-8")) for path in FILES}

LET_BUILTINS = set("""len range enumerate zip min max sum abs sorted reversed int str bool bytes list
    tuple dict set frozenset isinstance ord repr any all divmod pow iter next map getattr hasattr
    setattr type super property staticmethod classmethod Exception ValueError TypeError KeyError
    IndexError LookupError ZeroDivisionError ArithmeticError OverflowError RuntimeError
    NotImplementedError AttributeError StopIteration NotImplemented""".split())
BARRED_WORDS = re.compile(r"\b(typing|typing_extensions|enum|Enum|IntEnum|StrEnum|Flag|IntFlag|Generic"
                          r"|Protocol|ABC|ABCMeta|namedtuple|NamedTuple|TypedDict|TYPE_CHECKING"
                          r"|abstractmethod|_wall|_WallAttr)\b|dataclass|overload|contextmanager")
BARRED_NAMES = set("""register mro elements open input law version_info with_traceback add_note
    attrgetter breakpoint builtins compile copyright credits delattr dir eval exec exit gc globals
    help id importlib license locals methodcaller os quit vars""".split())
BARRED_NODES = (ast.AsyncFunctionDef, ast.AsyncFor, ast.AsyncWith, ast.Await, ast.Div, ast.MatMult,
                ast.Import, ast.TryStar)
LET_METHODS = ("__init__", "__eq__", "__str__", "__len__", "__bool__", "__contains__")
LIBRARY = ("heapq", "math", "itertools", "collections")


def bound_names(tree):
    """All names that a file binds, with parameters; not those of attributes."""
    for node in ast.walk(tree):
        if isinstance(node, ast.Name) and not isinstance(node.ctx, ast.Load):
            yield node.id
        elif isinstance(node, (ast.FunctionDef, ast.ClassDef)):
            yield node.name
        elif isinstance(node, ast.arg):
            yield node.arg
        elif isinstance(node, ast.alias):
            yield node.name
        elif isinstance(node, ast.ExceptHandler) and node.name:
            yield node.name


def module_path(module):
    """The file of a module of the package."""
    path = ROOT.joinpath(*module.split("."))
    return path / "__init__.py" if path.is_dir() else path.with_suffix(".py")


def defined_names(tree):
    """The names that a file defines itself at its top."""
    names = []
    for node in tree.body:
        if isinstance(node, (ast.FunctionDef, ast.ClassDef)):
            names.append(node.name)
        elif isinstance(node, ast.Assign):
            names.append(node.targets[0].id)
    return names


def classes():
    """All classes of the package."""
    return [node for tree in TREES.values() for node in tree.body if isinstance(node, ast.ClassDef)]


def methods_of(made):
    return [node for node in made.body if isinstance(node, ast.FunctionDef)]


def is_property(function):
    return [ast.dump(node) for node in function.decorator_list] == [ast.dump(
        ast.parse("property", mode="eval").body)]


def strings_without_docstrings(tree):
    docstrings = [node.body[0].value for node in ast.walk(tree)
                  if isinstance(node, (ast.Module, ast.ClassDef, ast.FunctionDef)) and node.body
                  and isinstance(node.body[0], ast.Expr)]
    return [node.value for node in ast.walk(tree) if isinstance(node, ast.Constant)
            and isinstance(node.value, str) and node not in docstrings]


class Files(unittest.TestCase):

    def test_only_plain_python_files_in_folders_with_an_init(self):
        self.assertTrue(FILES)
        for path in FILES:
            self.assertRegex(path.name, r"^([a-z][a-z0-9_]*|__init__|__main__)\.py$")
            self.assertTrue((path.parent / "__init__.py").is_file(), path)
            self.assertFalse(path.with_suffix("").is_dir(), path)

    def test_characters_and_sizes(self):
        for path in FILES:
            text = path.read_text(encoding="utf-8")
            self.assertRegex(text, r"\A[ -~\n]*\Z", path)
            lines = text.split("\n")
            self.assertLessEqual(len(lines), 399, path)
            for line in lines:
                self.assertLessEqual(len(line), 120, path)
            for node in ast.walk(TREES[path]):
                if isinstance(node, ast.FunctionDef):
                    self.assertLessEqual(node.end_lineno - node.lineno + 1, 40, node.name)

    def test_barred_words(self):
        for path in FILES:
            self.assertIsNone(BARRED_WORDS.search(path.read_text(encoding="utf-8")), path)


class Names(unittest.TestCase):

    def test_no_name_is_that_of_a_builtin_or_barred(self):
        for path, tree in TREES.items():
            for name in bound_names(tree):
                self.assertFalse(hasattr(builtins, name) and not name.startswith("__"), name)
                self.assertNotIn(name, BARRED_NAMES, path)

    def test_only_the_builtins_that_are_let(self):
        for path, tree in TREES.items():
            for node in ast.walk(tree):
                if isinstance(node, ast.Name) and hasattr(builtins, node.id):
                    self.assertIn(node.id, LET_BUILTINS, path)

    def test_no_variable_has_the_name_of_a_class_an_import_or_a_function(self):
        for path, tree in TREES.items():
            taken = defined_names(tree)
            for node in tree.body:
                if isinstance(node, ast.ImportFrom):
                    taken += [alias.name for alias in node.names]
            self.assertEqual(len(taken), len(set(taken)), path)
            for function in ast.walk(tree):
                if isinstance(function, ast.FunctionDef):
                    inside = [name for part in function.body + [function.args]
                              for name in bound_names(part)]
                    self.assertFalse(set(inside) & set(taken), (path, function.name))

    def test_an_underscore_is_not_read(self):
        for path, tree in TREES.items():
            for node in ast.walk(tree):
                if isinstance(node, ast.Name) and isinstance(node.ctx, ast.Load):
                    self.assertNotEqual(node.id, "_", path)


class Statements(unittest.TestCase):

    def test_the_top_of_each_file(self):
        for path, tree in TREES.items():
            for at, node in enumerate(tree.body):
                if isinstance(node, ast.Expr):
                    self.assertEqual(at, 0, path)
                    self.assertIsInstance(node.value.value, str)
                elif isinstance(node, ast.Assign):
                    self.assertEqual(len(node.targets), 1, path)
                    self.assertIsInstance(node.targets[0], ast.Name, path)
                else:
                    self.assertIsInstance(node, (ast.ImportFrom, ast.FunctionDef, ast.ClassDef))

    def test_nothing_that_is_barred(self):
        for path, tree in TREES.items():
            for node in ast.walk(tree):
                self.assertNotIsInstance(node, BARRED_NODES, path)
                if isinstance(node, ast.Constant):
                    self.assertNotIsInstance(node.value, (float, complex), path)
                if isinstance(node, ast.Assert):
                    self.assertNotIsInstance(node.test, ast.Tuple, path)
                if isinstance(node, ast.Raise) and node.exc is not None:
                    self.assertIsInstance(node.exc, ast.Call, path)

    def test_strings(self):
        for path, tree in TREES.items():
            for text in strings_without_docstrings(tree):
                self.assertNotIn("%", text, path)
                self.assertNotIn("__", text, path)


class Classes(unittest.TestCase):

    def test_bodies_have_methods_alone_and_decorators_are_properties(self):
        for made in classes():
            self.assertEqual(made.decorator_list, [])
            for node in made.body[1:] if isinstance(made.body[0], ast.Expr) else made.body:
                self.assertIsInstance(node, ast.FunctionDef, made.name)
                self.assertTrue(not node.decorator_list or is_property(node), node.name)
                if node.name.startswith("__"):
                    self.assertIn(node.name, LET_METHODS)
        for tree in TREES.values():
            for node in tree.body:
                if isinstance(node, ast.FunctionDef):
                    self.assertEqual(node.decorator_list, [], node.name)

    def test_no_name_is_a_method_and_an_attribute(self):
        methods = {node.name for made in classes() for node in methods_of(made)}
        attributes = {node.attr for tree in TREES.values() for node in ast.walk(tree)
                      if isinstance(node, ast.Attribute) and isinstance(node.ctx, ast.Store)}
        self.assertEqual(methods & attributes, set())
        self.assertTrue({"run", "history"} <= methods)
        builtin = {name for value in ("", 0, [], {}, set(), (), b"") for name in dir(value)}
        self.assertEqual(attributes & builtin, set())
        self.assertEqual({name for name in methods & builtin if not name.startswith("__")}, set())

    def test_no_generator_expression_and_no_sort_beside_a_class_with_eq(self):
        for path, tree in TREES.items():
            for node in ast.walk(tree):
                self.assertNotIsInstance(node, ast.GeneratorExp, path)
                if isinstance(node, ast.Attribute):
                    self.assertNotEqual(node.attr, "sort", path)

    def test_what_operators_and_properties_return(self):
        for made in classes():
            for function in methods_of(made):
                if function.name == "__len__":
                    self.assertEqual(function.body[-1].value.func.id, "len")
                elif function.name == "__str__":
                    self.assertIsInstance(function.body[-1].value, ast.JoinedStr)
                if is_property(function) or function.name in LET_METHODS[1:]:
                    for node in ast.walk(function):
                        self.assertNotIsInstance(node, (ast.Assign, ast.AugAssign, ast.Delete))

    def test_errors_of_python_itself_are_not_caught(self):
        for path, tree in TREES.items():
            for node in ast.walk(tree):
                if isinstance(node, ast.ExceptHandler):
                    caught = node.type.elts if isinstance(node.type, ast.Tuple) else [node.type]
                    for error in caught:
                        self.assertFalse(hasattr(builtins, error.id), path)


class Imports(unittest.TestCase):

    def test_imports_name_the_file_that_defines_the_name(self):
        for path, tree in TREES.items():
            for node in ast.walk(tree):
                if isinstance(node, ast.ImportFrom) and node.module not in LIBRARY:
                    self.assertEqual(node.level, 0, path)
                    self.assertTrue(node.module.startswith("oncework."), path)
                    told = defined_names(TREES[module_path(node.module)])
                    for alias in node.names:
                        self.assertIsNone(alias.asname, path)
                        self.assertIn(alias.name, told, path)

    def test_imports_stand_at_the_top_and_are_used(self):
        for path, tree in TREES.items():
            at_top = [node for node in tree.body if isinstance(node, ast.ImportFrom)]
            everywhere = [node for node in ast.walk(tree) if isinstance(node, ast.ImportFrom)]
            self.assertEqual(at_top, everywhere, path)
            read = {node.id for node in ast.walk(tree) if isinstance(node, ast.Name)}
            for node in at_top:
                for alias in node.names:
                    self.assertIn(alias.name, read, path)

    def test_no_files_import_from_each_other(self):
        below = {path: [module_path(node.module) for node in tree.body
                        if isinstance(node, ast.ImportFrom) and node.module not in LIBRARY]
                 for path, tree in TREES.items()}
        left = dict(below)
        while left:
            free = [path for path in left if not set(left[path]) & set(left)]
            self.assertTrue(free, sorted(left))
            for path in free:
                del left[path]


if __name__ == "__main__":
    unittest.main()
