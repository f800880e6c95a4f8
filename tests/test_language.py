"""Those rules of the language that can be seen by reading the files of the package."""

import ast
import builtins
import pathlib
import re
import unittest

FOLDER = pathlib.Path(__file__).resolve().parent.parent / "shelfcounts"
FILES = sorted(FOLDER.glob("*.py"))

BUILTINS = set("""
    len range enumerate zip min max sum abs sorted reversed int str bool list tuple dict set isinstance ord repr
    any all divmod iter next Exception ValueError TypeError KeyError IndexError LookupError ZeroDivisionError
    ArithmeticError OverflowError RuntimeError NotImplementedError StopIteration NotImplemented
""".split())
METHODS = set("""
    append clear copy count endswith extend find get index insert isalnum isalpha isdigit islower isspace isupper
    items join keys ljust lower lstrip partition pop remove replace reverse rfind rjust rpartition rsplit rstrip
    setdefault split splitlines startswith strip update upper values zfill bit_length add discard sort
""".split())
WORDS = set("""
    type typing typing_extensions enum Enum IntEnum StrEnum Flag IntFlag Generic Protocol ABC ABCMeta namedtuple
    NamedTuple TypedDict TYPE_CHECKING abstractmethod
""".split())
NAMES = set("""
    register mro elements open input version_info with_traceback add_note attrgetter breakpoint builtins compile
    copyright credits delattr dir eval exec exit gc getattr globals hasattr help id importlib license locals
    methodcaller os quit setattr super type vars sys
""".split())
# Those that a generator expression may stand in, beside the join of a literal.
TAKERS = ("list", "tuple", "dict", "sorted", "sum", "min", "max", "any", "all")
BARRED = (ast.Global, ast.AsyncFunctionDef, ast.AsyncFor, ast.AsyncWith, ast.Await, ast.Import, ast.Div, ast.MatMult)


def bound_at_top(tree):
    """The names that a file itself binds: functions, classes and values."""
    names = []
    for node in tree.body:
        if isinstance(node, (ast.FunctionDef, ast.ClassDef)):
            names.append(node.name)
        elif isinstance(node, ast.Assign):
            names.extend(target.id for target in node.targets)
    return names


def imports(tree):
    return [node for node in ast.walk(tree) if isinstance(node, ast.ImportFrom)]


def bound_names(tree):
    """All names that are bound anywhere in a file but by imports, classes and functions at module level."""
    names = []
    for node in ast.walk(tree):
        if isinstance(node, ast.Name) and isinstance(node.ctx, ast.Store):
            names.append(node.id)
        elif isinstance(node, ast.arg):
            names.append(node.arg)
    return names


def own_methods():
    """The names of all methods of the package's classes."""
    found = set()
    for path in FILES:
        for node in ast.walk(ast.parse(path.read_text())):
            if isinstance(node, ast.ClassDef):
                found |= {part.name for part in node.body if isinstance(part, ast.FunctionDef)}
    return found


def called_name(node):
    """The name that is called, None where it isn't a call of a name."""
    return node.func.id if isinstance(node, ast.Call) and isinstance(node.func, ast.Name) else None


def is_join_of_literal(node):
    return isinstance(node, ast.Attribute) and node.attr == "join" and isinstance(node.value, ast.Constant)


def of_each_file(check):
    """The test that makes this check of each file's text and tree."""
    def test(self):
        for path in FILES:
            text = path.read_text(encoding="ascii")
            with self.subTest(file=path.name):
                check(self, text, ast.parse(text))
    return test


class LanguageTest(unittest.TestCase):
    def test_the_folder_has_files_of_the_package_alone(self):
        found = [path.name for path in FOLDER.iterdir() if path.name != "__pycache__"]
        self.assertEqual(sorted(found), [path.name for path in FILES])
        self.assertIn("__init__.py", found)
        for name in found:
            self.assertRegex(name, r"\A[a-z0-9_]+\.py\Z")

    @of_each_file
    def test_signs_and_sizes(self, text, tree):
        self.assertRegex(text, r"\A[ -~\n]+\n\Z")
        lines = text.split("\n")
        self.assertLessEqual(len(lines), 400)
        self.assertLessEqual(max(len(line) for line in lines), 120)
        for node in ast.walk(tree):
            if isinstance(node, ast.FunctionDef):
                self.assertLessEqual(node.end_lineno - node.lineno + 1, 40, node.name)

    @of_each_file
    def test_words_that_are_not_used(self, text, tree):
        self.assertEqual(WORDS & set(re.findall(r"\w+", text)), set())
        self.assertIsNone(re.search("dataclass|overload|contextmanager", text))

    @of_each_file
    def test_statements_and_values(self, text, tree):
        for node in ast.walk(tree):
            self.assertNotIsInstance(node, BARRED)
            if isinstance(node, ast.Constant):
                self.assertNotIsInstance(node.value, (float, complex))
                if isinstance(node.value, str):
                    self.assertNotIn("%", node.value)
            if isinstance(node, ast.Compare):
                for sign, right in zip(node.ops, node.comparators):
                    if isinstance(sign, (ast.Is, ast.IsNot)):
                        self.assertIsInstance(right, ast.Constant)
                        self.assertIn(right.value, (None, True, False))
            if isinstance(node, ast.FunctionDef):
                self.assertEqual(node.decorator_list, [])

    @of_each_file
    def test_module_level(self, text, tree):
        for node in tree.body:
            docstring = isinstance(node, ast.Expr) and isinstance(node.value, ast.Constant)
            kinds = (ast.ImportFrom, ast.FunctionDef, ast.ClassDef, ast.Assign)
            self.assertTrue(docstring or isinstance(node, kinds), ast.dump(node))
            if isinstance(node, ast.Assign):
                inner = [part for part in ast.walk(node.value) if part != node.value]
                self.assertFalse([part for part in inner if isinstance(part, (ast.List, ast.Dict, ast.Call))])
        names = bound_at_top(tree) + [alias.name for node in imports(tree) for alias in node.names]
        self.assertEqual(len(names), len(set(names)))

    @of_each_file
    def test_imports_name_the_file_that_defines(self, text, tree):
        for node in imports(tree):
            self.assertIn(node, tree.body)
            self.assertEqual(node.level, 0)
            package, module = node.module.split(".")
            self.assertEqual(package, "shelfcounts")
            defined = bound_at_top(ast.parse((FOLDER / (module + ".py")).read_text()))
            for alias in node.names:
                self.assertIn(alias.name, defined)
                self.assertIsNone(alias.asname)

    def test_no_files_import_from_each_other(self):
        needs = {}
        for path in FILES:
            needs[path.stem] = {node.module.split(".")[1] for node in imports(ast.parse(path.read_text()))}
        while needs:
            free = [name for name in needs if not needs[name] & set(needs)]
            self.assertNotEqual(free, [], needs)
            for name in free:
                del needs[name]

    @of_each_file
    def test_names(self, text, tree):
        taken = {alias.name for node in imports(tree) for alias in node.names}
        taken |= {node.name for node in ast.walk(tree) if isinstance(node, (ast.ClassDef, ast.FunctionDef))}
        for name in bound_names(tree):
            self.assertRegex(name, r"\A[A-Za-z][A-Za-z0-9_]*\Z")
            self.assertNotIn(name, taken | NAMES | set(dir(builtins)))
        for node in ast.walk(tree):
            if isinstance(node, ast.FunctionDef):
                self.assertTrue(not node.name.startswith("_") or node.name == "__init__")
                self.assertNotIn(node.name, NAMES | set(dir(builtins)))

    @of_each_file
    def test_builtins_and_methods(self, text, tree):
        for node in ast.walk(tree):
            if isinstance(node, ast.Name) and node.id in dir(builtins):
                self.assertIn(node.id, BUILTINS)
            if isinstance(node, ast.Call) and isinstance(node.func, ast.Attribute):
                self.assertIn(node.func.attr, METHODS | own_methods())

    @of_each_file
    def test_generators_and_sets_stand_where_they_may(self, text, tree):
        for holder in ast.walk(tree):
            for node in ast.iter_child_nodes(holder):
                if isinstance(node, ast.GeneratorExp):
                    self.assertIsInstance(holder, ast.Call)
                    self.assertTrue(called_name(holder) in TAKERS or is_join_of_literal(holder.func), ast.unparse(holder))
                if isinstance(node, ast.SetComp) or (isinstance(node, ast.Call) and called_name(node) == "set"):
                    self.assertTrue(isinstance(holder, ast.Compare) or called_name(holder) in ("len", "sorted"))

    def test_no_name_is_a_method_and_an_attribute(self):
        attributes = set()
        for path in FILES:
            for node in ast.walk(ast.parse(path.read_text())):
                if isinstance(node, ast.Attribute) and isinstance(node.ctx, ast.Store):
                    attributes.add(node.attr)
        self.assertEqual(attributes & own_methods(), set())
        self.assertEqual(attributes & METHODS, set())


if __name__ == "__main__":
    unittest.main()
