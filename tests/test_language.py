"""The rules of the package's files that can be read off without running them."""

import ast
import builtins
import unittest
from pathlib import Path

PACKAGE = Path(__file__).resolve().parent.parent / "latebyfew"
FILES = sorted(PACKAGE.rglob("*.py"))
BUILTINS = {
    "len", "range", "enumerate", "zip", "min", "max", "sum", "abs", "sorted", "reversed", "int", "str", "bool", "list",
    "tuple", "dict", "set", "isinstance", "ord", "repr", "any", "all", "divmod", "Exception", "KeyError",
}
LIBRARY = {"heapq", "math", "itertools", "collections"}
BARRED = {"register", "mro", "elements", "open", "input", "law", "version_info", "with_traceback", "add_note"}
FLAT = {"any", "all", "min", "max", "sum", "sorted"}
METHODS = {
    "append", "extend", "get", "isascii", "isdigit", "items", "join", "pop", "setdefault", "split",
}
WORDS = {
    "type", "typing", "typing_extensions", "enum", "Enum", "IntEnum", "StrEnum", "Flag", "IntFlag", "Generic", "Protocol",
    "ABC", "ABCMeta", "namedtuple", "NamedTuple", "TypedDict", "TYPE_CHECKING", "abstractmethod", "dataclass", "overload",
}
# What the rules let in some places only, or nowhere, and the package does without.
NOT_USED = (
    ast.Global, ast.Nonlocal, ast.With, ast.Try, ast.Match, ast.Lambda, ast.Yield, ast.YieldFrom, ast.GeneratorExp,
    ast.Set, ast.SetComp, ast.Starred, ast.Delete, ast.Assert, ast.NamedExpr, ast.Pow, ast.Mod, ast.AsyncFunctionDef,
)


def trees():
    return [(path.name, ast.parse(path.read_text(encoding="utf-8"))) for path in FILES]


def bound_by(node):
    """The names that a row at module level binds."""
    if isinstance(node, ast.ImportFrom):
        return [one.name for one in node.names]
    if isinstance(node, (ast.FunctionDef, ast.ClassDef)):
        return [node.name]
    return [one.id for one in ast.walk(node) if isinstance(one, ast.Name) and isinstance(one.ctx, ast.Store)]


def names_at_top(tree):
    """The names that a file defines itself."""
    return {one for node in tree.body if not isinstance(node, ast.ImportFrom) for one in bound_by(node)}


def imported(tree):
    return {one.name for node in tree.body if isinstance(node, ast.ImportFrom) for one in node.names}


def locals_of(function):
    """The parameters and variables of a function."""
    found = {node.arg for node in ast.walk(function) if isinstance(node, ast.arg)}
    return found | {node.id for node in ast.walk(function)
                    if isinstance(node, ast.Name) and isinstance(node.ctx, ast.Store)}


class Language(unittest.TestCase):
    def test_only_python_files(self):
        found = [path for path in PACKAGE.rglob("*") if "__pycache__" not in path.parts and path.is_file()]
        self.assertEqual(sorted(found), FILES)

    def test_characters_and_sizes(self):
        for path in FILES:
            text = path.read_text(encoding="utf-8")
            self.assertTrue(all(" " <= sign <= "~" or sign == "\n" for sign in text), path.name)
            self.assertLessEqual(len(text.splitlines()), 399, path.name)
            self.assertLessEqual(max(len(line) for line in text.split("\n")), 120, path.name)
            self.assertTrue(text.endswith("\n") and not text.endswith("\n\n"), path.name)

    def test_functions(self):
        for name, tree in trees():
            for node in ast.walk(tree):
                if isinstance(node, (ast.FunctionDef, ast.ClassDef)):
                    self.assertIsNotNone(ast.get_docstring(node) or node.name in ("__init__", "__eq__") or None,
                                         f"{name}: {node.name}")
                if isinstance(node, ast.FunctionDef):
                    self.assertLessEqual(node.end_lineno - node.lineno + 1, 40, f"{name}: {node.name}")

    def test_imports(self):
        for name, tree in trees():
            for node in ast.walk(tree):
                self.assertNotIsInstance(node, ast.Import, name)
                if isinstance(node, ast.ImportFrom):
                    self.assertTrue(node.module.startswith("latebyfew.") or node.module in LIBRARY, name)
                    self.assertEqual([one.asname for one in node.names], [None for _ in node.names], name)

    def test_names(self):
        for name, tree in trees():
            bound = {node.arg for node in ast.walk(tree) if isinstance(node, ast.arg)}
            for node in ast.walk(tree):
                if isinstance(node, (ast.FunctionDef, ast.ClassDef)):
                    bound.add(node.name)
                if isinstance(node, ast.Name) and isinstance(node.ctx, ast.Store):
                    bound.add(node.id)
            self.assertEqual(bound & (BARRED | set(dir(builtins))), set(), name)

    def test_builtins(self):
        for name, tree in trees():
            read = {node.id for node in ast.walk(tree) if isinstance(node, ast.Name)}
            self.assertEqual((read & set(dir(builtins))) - BUILTINS, set(), name)

    def test_no_floats_and_no_shares(self):
        for name, tree in trees():
            for node in ast.walk(tree):
                self.assertNotIsInstance(node, ast.Div, name)
                if isinstance(node, ast.Constant):
                    self.assertNotIsInstance(node.value, (float, complex), name)

    def test_what_is_added_up_is_a_list(self):
        for name, tree in trees():
            for node in ast.walk(tree):
                if isinstance(node, ast.Call) and isinstance(node.func, ast.Name) and node.func.id in FLAT:
                    self.assertFalse([one for one in node.args if isinstance(one, ast.GeneratorExp)], name)

    def test_imports_from_the_very_file(self):
        defined = {path.stem: names_at_top(tree) for path, (_, tree) in zip(FILES, trees())}
        for name, tree in trees():
            for node in tree.body:
                if isinstance(node, ast.ImportFrom) and node.module.startswith("latebyfew."):
                    for one in node.names:
                        self.assertIn(one.name, defined[node.module.split(".")[1]], f"{name}: {one.name}")

    def test_imports_in_no_circle(self):
        needs = {path.stem: {node.module.split(".")[1] for node in tree.body if isinstance(node, ast.ImportFrom)
                             and node.module.startswith("latebyfew.")} for path, (_, tree) in zip(FILES, trees())}
        while needs:
            free = [name for name in needs if not needs[name] & set(needs)]
            self.assertTrue(free, needs)
            for name in free:
                del needs[name]

    def test_one_binding_for_each_name(self):
        for name, tree in trees():
            found = [one for node in tree.body for one in bound_by(node)]
            self.assertEqual(len(found), len(set(found)), name)

    def test_every_import_is_used(self):
        for name, tree in trees():
            read = {node.id for node in ast.walk(tree) if isinstance(node, ast.Name)}
            self.assertEqual(imported(tree) - read, set(), name)

    def test_no_local_name_is_one_of_the_file(self):
        for name, tree in trees():
            taken = imported(tree) | {node.name for node in tree.body if isinstance(node, (ast.ClassDef, ast.FunctionDef))}
            for node in ast.walk(tree):
                if isinstance(node, (ast.FunctionDef, ast.Lambda)):
                    self.assertEqual(locals_of(node) & taken, set(), f"{name}: {node.lineno}")

    def test_is_beside_none_alone(self):
        for name, tree in trees():
            for node in ast.walk(tree):
                if isinstance(node, ast.Compare):
                    for sign, other in zip(node.ops, node.comparators):
                        if isinstance(sign, (ast.Is, ast.IsNot)):
                            self.assertIsInstance(other, ast.Constant, f"{name}: {node.lineno}")

    def test_methods_of_builtin_values(self):
        own = {node.name for _, tree in trees() for node in ast.walk(tree) if isinstance(node, ast.FunctionDef)}
        for name, tree in trees():
            for node in ast.walk(tree):
                if isinstance(node, ast.Call) and isinstance(node.func, ast.Attribute):
                    self.assertIn(node.func.attr, own | METHODS, f"{name}: {node.lineno}")

    def test_no_attribute_is_a_method_too(self):
        for name, tree in trees():
            for node in tree.body:
                if isinstance(node, ast.ClassDef):
                    methods = {one.name for one in node.body if isinstance(one, ast.FunctionDef)}
                    attributes = {one.attr for one in ast.walk(node)
                                  if isinstance(one, ast.Attribute) and isinstance(one.ctx, ast.Store)}
                    self.assertEqual(methods & attributes, set(), f"{name}: {node.name}")

    def test_statements_and_expressions(self):
        for name, tree in trees():
            for node in ast.walk(tree):
                self.assertNotIsInstance(node, NOT_USED, f"{name}: {getattr(node, 'lineno', 0)}")
                if isinstance(node, ast.Constant) and isinstance(node.value, str):
                    self.assertNotIn("%", node.value, name)

    def test_words_that_do_not_occur(self):
        for name, tree in trees():
            docs = {id(node.body[0].value) for node in ast.walk(tree)
                    if isinstance(node, (ast.Module, ast.ClassDef, ast.FunctionDef)) and ast.get_docstring(node)}
            for node in ast.walk(tree):
                if isinstance(node, ast.Constant) and isinstance(node.value, str) and id(node) not in docs:
                    self.assertEqual(set(node.value.split()) & WORDS, set(), name)
                if isinstance(node, ast.Name):
                    self.assertNotIn(node.id, WORDS, name)


if __name__ == "__main__":
    unittest.main()
