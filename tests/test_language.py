"""The rules of the language that can be seen in the files of the package, as far as it uses the language."""

import ast
import builtins
import pathlib
import re
import unittest

PACKAGE = pathlib.Path(__file__).resolve().parent.parent / "stripelay"
FILES = sorted(PACKAGE.glob("*.py"))
BARRED_WORDS = (
    "type typing typing_extensions enum Enum IntEnum StrEnum Flag IntFlag Generic Protocol ABC ABCMeta namedtuple "
    "NamedTuple TypedDict TYPE_CHECKING abstractmethod"
).split()
BUILTINS = (
    "len range enumerate zip min max sum abs sorted reversed int str bool list tuple dict set isinstance ord repr any all "
    "divmod ValueError KeyError IndexError LookupError ZeroDivisionError"
).split()
METHODS = ("__init__", "__eq__", "__repr__", "__str__", "__len__")
BUILTIN_METHODS = (
    "append clear copy count endswith extend find get index insert isalnum isalpha isdigit islower isspace isupper items "
    "join keys ljust lower lstrip partition pop remove replace reverse rfind rjust rpartition rsplit rstrip setdefault split "
    "splitlines startswith strip update upper values zfill bit_length removeprefix removesuffix"
).split()
# Allowed in parts of the language only; the package does without them.
UNUSED_NODES = (
    ast.Global, ast.AsyncFunctionDef, ast.Await, ast.Import, ast.Div, ast.MatMult, ast.AnnAssign, ast.With,
    ast.Yield, ast.YieldFrom, ast.GeneratorExp, ast.NamedExpr, ast.Nonlocal, ast.Match, ast.SetComp,
)


def trees():
    return [(path.name, ast.parse(path.read_text(encoding="utf-8"))) for path in FILES]


def nodes(kind):
    return [(name, node) for name, tree in trees() for node in ast.walk(tree) if isinstance(node, kind)]


def module_names(tree):
    """The names that a file binds at module level, each as often as it does."""
    bound = []
    for node in tree.body:
        if isinstance(node, (ast.FunctionDef, ast.ClassDef)):
            bound.append(node.name)
        if isinstance(node, ast.Assign):
            bound.extend(target.id for target in node.targets)
        if isinstance(node, ast.ImportFrom):
            bound.extend(alias.asname or alias.name for alias in node.names)
    return bound


def own_methods():
    return {part.name for name, node in nodes(ast.ClassDef) for part in node.body if isinstance(part, ast.FunctionDef)}


class Files(unittest.TestCase):
    def test_only_plain_files_stand_in_the_package(self):
        self.assertTrue(FILES)
        for path in PACKAGE.iterdir():
            if path.name != "__pycache__":
                self.assertRegex(path.name, r"^[a-z_][a-z0-9_]*\.py$")

    def test_signs_and_sizes(self):
        for path in FILES:
            text = path.read_text(encoding="utf-8")
            self.assertIsNone(re.search(r"[^ -~\n]", text), path.name)
            self.assertLessEqual(len(text.splitlines()), 400, path.name)
            self.assertLessEqual(max(len(line) for line in text.splitlines()), 120, path.name)

    def test_small_functions(self):
        for name, node in nodes(ast.FunctionDef):
            self.assertLessEqual(node.end_lineno - node.lineno + 1, 40, (name, node.name))

    def test_barred_words(self):
        for path in FILES:
            words = re.findall(r"\w+", path.read_text(encoding="utf-8"))
            self.assertEqual([word for word in words if word in BARRED_WORDS], [], path.name)


class Words(unittest.TestCase):
    def test_statements_and_expressions(self):
        for name, tree in trees():
            for node in ast.walk(tree):
                self.assertNotIsInstance(node, UNUSED_NODES, (name, getattr(node, "lineno", None)))
                if isinstance(node, ast.Constant):
                    self.assertNotIsInstance(node.value, (float, complex))
                    self.assertFalse(isinstance(node.value, str) and chr(37) in node.value, name)

    def test_only_items_are_deleted(self):
        for name, node in nodes(ast.Delete):
            for target in node.targets:
                self.assertIsInstance(target, ast.Subscript, (name, node.lineno))

    def test_names_at_module_level_are_bound_once(self):
        for name, tree in trees():
            bound = module_names(tree)
            self.assertEqual(len(bound), len(set(bound)), name)

    def test_no_parameter_or_variable_has_the_name_of_one_at_module_level(self):
        for name, tree in trees():
            bound = set(module_names(tree))
            for function in ast.walk(tree):
                if isinstance(function, (ast.FunctionDef, ast.Lambda)):
                    inner = [node for node in ast.walk(function) if node is not function]
                    told = {node.arg for node in inner if isinstance(node, ast.arg)}
                    told |= {node.id for node in inner if isinstance(node, ast.Name) and isinstance(node.ctx, ast.Store)}
                    self.assertEqual(told & bound, set(), name)

    def test_no_two_files_import_from_each_other(self):
        above = {name: {node.module.removeprefix("stripelay.") + ".py" for node in ast.walk(tree) if isinstance(node, ast.ImportFrom)}
                 for name, tree in trees()}
        while above:
            free = [name for name in above if not above[name] & set(above)]
            self.assertTrue(free, sorted(above))
            above = {name: above[name] for name in above if name not in free}

    def test_imports_name_the_file_that_defines(self):
        defined = {}
        for name, tree in trees():
            for node in tree.body:
                if isinstance(node, (ast.FunctionDef, ast.ClassDef)):
                    defined[(name, node.name)] = True
                if isinstance(node, ast.Assign):
                    defined[(name, node.targets[0].id)] = True
        for name, node in nodes(ast.ImportFrom):
            self.assertEqual(node.level, 0)
            self.assertTrue(node.module.startswith("stripelay."), name)
            for alias in node.names:
                self.assertIn((node.module.removeprefix("stripelay.") + ".py", alias.name), defined)

    def test_builtins(self):
        for name, node in nodes(ast.Name):
            self.assertFalse(node.id.startswith("_"), (name, node.id))
            if hasattr(builtins, node.id):
                self.assertIsInstance(node.ctx, ast.Load, (name, node.id))
                self.assertIn(node.id, BUILTINS, name)
        for name, node in nodes(ast.arg):
            self.assertFalse(hasattr(builtins, node.arg), (name, node.arg))

    def test_methods_and_attributes(self):
        for name, node in nodes(ast.ClassDef):
            for part in node.body:
                if isinstance(part, ast.FunctionDef) and part.name.startswith("_"):
                    self.assertIn(part.name, METHODS)
        attributes = {node.attr for name, node in nodes(ast.Attribute) if isinstance(node.ctx, ast.Store)}
        self.assertEqual(own_methods() & attributes, set())
        known = own_methods() | attributes | set(BUILTIN_METHODS)
        for name, node in nodes(ast.Attribute):
            self.assertIn(node.attr, known, name)

    def test_no_decorators_and_plain_is(self):
        for name, node in nodes((ast.FunctionDef, ast.ClassDef)):
            self.assertEqual(node.decorator_list, [])
        for name, node in nodes(ast.Compare):
            for sign, right in zip(node.ops, node.comparators):
                if isinstance(sign, (ast.Is, ast.IsNot)):
                    self.assertIsInstance(right, ast.Constant)


if __name__ == "__main__":
    unittest.main()
