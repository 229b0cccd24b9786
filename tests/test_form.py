"""The part of Python that the package keeps to, as far as it can be seen row by row."""

import ast
import builtins
import pathlib
import re
import unittest

PACKAGE = pathlib.Path(__file__).resolve().parent.parent / "deedhouse"

NODES = (
    ast.Module, ast.ImportFrom, ast.alias, ast.FunctionDef, ast.arguments, ast.arg, ast.ClassDef, ast.Lambda,
    ast.Assign, ast.AugAssign, ast.If, ast.While, ast.For, ast.Return, ast.Break, ast.Continue, ast.Pass,
    ast.Raise, ast.Try, ast.ExceptHandler, ast.Expr, ast.Constant, ast.Name, ast.Attribute, ast.Subscript,
    ast.Slice, ast.List, ast.Tuple, ast.Dict, ast.BinOp, ast.UnaryOp, ast.BoolOp, ast.Compare, ast.IfExp,
    ast.Call, ast.ListComp, ast.comprehension, ast.JoinedStr, ast.FormattedValue,
    ast.expr_context, ast.boolop, ast.operator, ast.unaryop, ast.cmpop,
)
BUILTINS = set("""len range enumerate zip min max sum abs sorted reversed int str bool list tuple dict
    isinstance ord repr any all divmod KeyError ValueError IndexError Exception""".split())
METHODS = set("""append clear copy count endswith extend find get index insert items join keys pop remove
    replace reverse setdefault split startswith strip update values""".split())
WORDS = """type typing typing_extensions enum Enum IntEnum StrEnum Flag IntFlag Generic Protocol ABC ABCMeta
    namedtuple NamedTuple TypedDict TYPE_CHECKING abstractmethod""".split()
NOWHERE = set("""register mro elements open input version_info with_traceback add_note format
    format_map""".split())
NOT_BOUND = NOWHERE | set(dir(builtins)) | set("""attrgetter builtins gc importlib methodcaller os
    sys""".split())


def modules():
    return sorted(PACKAGE.rglob("*.py"))


def trees():
    return [(path.name, ast.parse(path.read_text(encoding="ascii"))) for path in modules()]


def walked():
    return [(name, node) for name, tree in trees() for node in ast.walk(tree)]


def bound_names(tree):
    """Names that a file gives a meaning to: its own, its imports, parameters and locals."""
    names = set()
    for node in ast.walk(tree):
        if isinstance(node, (ast.FunctionDef, ast.ClassDef)):
            names.add(node.name)
        elif isinstance(node, ast.arg):
            names.add(node.arg)
        elif isinstance(node, ast.alias):
            names.add(node.asname or node.name)
        elif isinstance(node, ast.Name) and isinstance(node.ctx, ast.Store):
            names.add(node.id)
    return names


class FormTest(unittest.TestCase):
    def test_files(self):
        found = [path for path in PACKAGE.rglob("*") if "__pycache__" not in path.parts]
        self.assertEqual(sorted(path for path in found if path.is_file()), modules())
        self.assertIn("__init__.py", [path.name for path in modules()])
        for path in modules():
            self.assertRegex(path.name, r"^(__init__|__main__|[a-z][a-z0-9_]*)\.py$")

    def test_signs_and_sizes(self):
        for path in modules():
            rows = path.read_bytes().decode("ascii").split("\n")
            self.assertLessEqual(len(rows), 400, path)
            for row in rows:
                self.assertRegex(row, r"^[ -~]{0,120}$", path)

    def test_functions_are_short(self):
        for name, node in walked():
            if isinstance(node, ast.FunctionDef):
                self.assertLessEqual(node.end_lineno - node.lineno + 1, 40, (name, node.name))

    def test_words(self):
        for path in modules():
            text = path.read_text(encoding="ascii")
            for word in WORDS:
                self.assertIsNone(re.search(r"\b" + word + r"\b", text), (path, word))
            for word in ("dataclass", "overload", "contextmanager"):
                self.assertNotIn(word, text, path)

    def test_nodes(self):
        for name, node in walked():
            self.assertIsInstance(node, NODES, name)
            if isinstance(node, (ast.FunctionDef, ast.ClassDef)):
                self.assertEqual(node.decorator_list, [], name)
            if isinstance(node, ast.arguments):
                self.assertFalse(node.vararg or node.kwarg or node.kwonlyargs or node.posonlyargs, name)
            if isinstance(node, ast.ListComp):
                self.assertEqual(len(node.generators), 1, name)
                self.assertLessEqual(len(node.generators[0].ifs), 1, name)
            if isinstance(node, ast.Assign):
                self.assertEqual(len(node.targets), 1, name)
            if isinstance(node, (ast.While, ast.For)):
                self.assertEqual(node.orelse, [], name)
            if isinstance(node, ast.BinOp):
                self.assertNotIsInstance(node.op, (ast.Div, ast.MatMult), name)

    def test_names(self):
        tops = {}
        for name, tree in trees():
            bound = bound_names(tree)
            for word in bound:
                self.assertRegex(word, r"^([A-Za-z][A-Za-z0-9_]*|__init__)$", name)
                self.assertNotIn(word, NOT_BOUND, name)
            used = {node.id for node in ast.walk(tree) if isinstance(node, ast.Name)}
            self.assertEqual(used - bound - BUILTINS, set(), name)
            for node in tree.body:
                if isinstance(node, (ast.FunctionDef, ast.ClassDef)):
                    self.assertNotIn(node.name, tops, name)
                    tops[node.name] = name

    def test_locals_are_not_called_like_imports(self):
        for name, tree in trees():
            taken = {alias.name for node in tree.body if isinstance(node, ast.ImportFrom) for alias in node.names}
            taken |= {node.name for node in tree.body if isinstance(node, (ast.FunctionDef, ast.ClassDef))}
            taken |= {node.targets[0].id for node in tree.body if isinstance(node, ast.Assign)}
            for node in tree.body:
                if isinstance(node, (ast.FunctionDef, ast.ClassDef)):
                    inner = ast.Module(body=node.body + [node.args] if hasattr(node, "args") else node.body)
                    self.assertEqual(bound_names(inner) & taken, set(), (name, node.name))

    def test_values_of_objects(self):
        for name, node in walked():
            if isinstance(node, ast.Attribute):
                self.assertNotIn(node.attr, NOWHERE, name)
                self.assertRegex(node.attr, r"^([a-z][a-z0-9_]*|__init__)$", name)

    def test_methods(self):
        own = {child.name for name, node in walked() if isinstance(node, ast.ClassDef)
               for child in node.body if isinstance(child, ast.FunctionDef)}
        for name, node in walked():
            if isinstance(node, ast.Call) and isinstance(node.func, ast.Attribute):
                self.assertIn(node.func.attr, METHODS | own, name)

    def test_imports_come_from_the_package_and_not_in_a_round(self):
        drawn = {}
        for name, tree in trees():
            sources = [node for node in ast.walk(tree) if isinstance(node, ast.ImportFrom)]
            for node in sources:
                self.assertEqual(node.level, 0, name)
                self.assertTrue(node.module.startswith("deedhouse."), name)
            drawn[name] = {node.module.split(".")[1] + ".py" for node in sources}
        while drawn:
            free = [name for name in drawn if not drawn[name] & set(drawn)]
            self.assertNotEqual(free, [], drawn)
            for name in free:
                drawn.pop(name)

    def test_top_of_a_file(self):
        for name, tree in trees():
            self.assertIsNotNone(ast.get_docstring(tree), name)
            for node in tree.body[1:]:
                self.assertIsInstance(node, (ast.ImportFrom, ast.FunctionDef, ast.ClassDef, ast.Assign), name)


if __name__ == "__main__":
    unittest.main()
