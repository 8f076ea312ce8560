"""Holds the package to those rules of its language that can be seen row by row."""

import ast
import builtins
import pathlib
import re
import unittest

PACKAGE = pathlib.Path(__file__).resolve().parent.parent / "joinback"

NODES = """
Module Expr Constant ImportFrom alias FunctionDef arguments arg Return Assign AugAssign AnnAssign For While If
Break Continue Pass Raise Try ExceptHandler ClassDef Assert Delete Lambda Name Load Store Del Attribute Subscript
Slice Starred Tuple List Dict Set ListComp DictComp SetComp comprehension Call keyword IfExp BoolOp And Or UnaryOp
Not USub UAdd Invert BinOp Add Sub Mult FloorDiv Mod Pow LShift RShift BitOr BitXor BitAnd Compare Eq NotEq Lt LtE
Gt GtE Is IsNot In NotIn JoinedStr FormattedValue
""".split()

BUILT_IN = """
len range enumerate zip min max sum abs sorted reversed int str bool bytes list tuple dict set frozenset isinstance
ord repr any all divmod Exception ValueError TypeError KeyError IndexError LookupError ZeroDivisionError
ArithmeticError OverflowError RuntimeError NotImplementedError AttributeError StopIteration
""".split()

METHODS = """
append clear copy count endswith extend find get index insert isalnum isalpha isdigit islower isspace isupper items
join keys ljust lower lstrip partition pop remove replace reverse rfind rjust rpartition rsplit rstrip setdefault
split splitlines startswith strip update upper values zfill bit_length sort add discard __init__
""".split()

UNUSED_NAMES = """
register mro elements open input version_info with_traceback add_note attrgetter breakpoint builtins compile
copyright credits delattr dir eval exec exit gc getattr globals hasattr help id importlib license locals methodcaller
os quit setattr super type vars sys
""".split()

UNUSED_WORDS = """
type typing typing_extensions enum Enum IntEnum StrEnum Flag IntFlag Generic Protocol ABC ABCMeta namedtuple
NamedTuple TypedDict TYPE_CHECKING abstractmethod
""".split()

WALKERS = "list tuple dict sorted sum any all enumerate zip min max".split()


def called(node):
    """The name by which a node calls a function or a method, or None."""
    if not isinstance(node, ast.Call):
        return None
    return node.func.attr if isinstance(node.func, ast.Attribute) else getattr(node.func, "id", None)


def bound_names(tree):
    """Every name that a file gives a meaning: defs, classes, parameters, locals."""
    for node in ast.walk(tree):
        if isinstance(node, (ast.FunctionDef, ast.ClassDef)):
            yield node.name
        elif isinstance(node, ast.arg):
            yield node.arg
        elif isinstance(node, ast.Name) and isinstance(node.ctx, ast.Store):
            yield node.id


def attribute_values(tree):
    """Every value that a file gives an object."""
    return {n.attr for n in ast.walk(tree) if isinstance(n, ast.Attribute) and isinstance(n.ctx, ast.Store)}


def method_names(tree):
    found = set()
    for node in ast.walk(tree):
        if isinstance(node, ast.ClassDef):
            found |= {part.name for part in node.body if isinstance(part, ast.FunctionDef)}
    return found


class Language(unittest.TestCase):
    def setUp(self):
        self.texts = {path.name: path.read_text("utf-8") for path in sorted(PACKAGE.glob("*.py"))}
        self.trees = {name: ast.parse(text) for name, text in self.texts.items()}

    def nodes(self, *kinds):
        for name, tree in self.trees.items():
            for node in ast.walk(tree):
                if isinstance(node, kinds):
                    yield f"{name}:{getattr(node, 'lineno', 0)}", node

    def nodes_with_above(self, *kinds):
        for where, above in self.nodes(ast.AST):
            for node in ast.iter_child_nodes(above):
                if isinstance(node, kinds):
                    yield where, node, above

    def test_the_folder_holds_files_of_python_alone(self):
        for path in PACKAGE.iterdir():
            if path.name != "__pycache__":
                self.assertRegex(path.name, r"^(__init__|[a-z][a-z0-9_]*)\.py$")

    def test_sizes_and_signs(self):
        for name, text in self.texts.items():
            rows = text.split("\n")
            self.assertLessEqual(len(rows), 400, name)
            self.assertLessEqual(max(map(len, rows)), 120, name)
            self.assertRegex(text, r"\A[ -~\n]*\Z", name)
        for where, node in self.nodes(ast.FunctionDef):
            self.assertLessEqual(node.end_lineno - node.lineno + 1, 40, where)

    def test_words_that_stand_nowhere(self):
        for name, text in self.texts.items():
            self.assertEqual(set(re.findall(r"\w+", text)) & set(UNUSED_WORDS), set(), name)
            self.assertNotRegex(text, "dataclass|overload|contextmanager", name)

    def test_kinds_of_rows_and_expressions(self):
        for where, node in self.nodes(ast.AST):
            self.assertIn(node.__class__.__name__, NODES, where)
            self.assertEqual(getattr(node, "decorator_list", []), [], where)
            if isinstance(node, (ast.For, ast.While)):
                self.assertEqual(node.orelse, [], where)
            if isinstance(node, ast.arguments):
                self.assertEqual((node.vararg, node.kwarg, node.posonlyargs), (None, None, []), where)
            if isinstance(node, ast.Constant):
                self.assertNotIsInstance(node.value, (float, complex), where)
            if isinstance(node, ast.FormattedValue):
                self.assertIsNone(node.format_spec, where)

    def test_imports_are_the_package_s_own(self):
        for where, node in self.nodes(ast.ImportFrom):
            self.assertEqual(node.level, 0, where)
            self.assertRegex(node.module, r"^joinback\.[a-z]+$", where)
            drawn = self.trees[node.module.split(".")[1] + ".py"]
            tops = {part.name for part in drawn.body if isinstance(part, (ast.FunctionDef, ast.ClassDef))}
            tops |= {part.targets[0].id for part in drawn.body if isinstance(part, ast.Assign)}
            for alias in node.names:
                self.assertIn(alias.name, tops, where)

    def test_no_two_files_draw_from_one_another(self):
        draws = {name: set() for name in self.trees}
        for where, node in self.nodes(ast.ImportFrom):
            draws[where.split(":")[0]].add(node.module.split(".")[1] + ".py")
        for start in draws:
            met, waiting = set(), list(draws[start])
            while waiting:
                name = waiting.pop()
                if name not in met:
                    met.add(name)
                    waiting.extend(draws[name])
            self.assertNotIn(start, met)

    def test_names(self):
        own = set(dir(builtins))
        for name, tree in self.trees.items():
            methods = method_names(tree)
            imports = {a.name for n in ast.walk(tree) if isinstance(n, ast.ImportFrom) for a in n.names}
            for bound in bound_names(tree):
                self.assertNotIn(bound, UNUSED_NAMES, name)
                self.assertNotIn(bound, imports, name)
                if bound not in methods:
                    self.assertNotIn(bound, own, name)
                if bound not in ("__init__", "__eq__", "__repr__", "__str__", "__len__"):
                    self.assertRegex(bound, r"^[A-Za-z][A-Za-z0-9_]*$", name)

    def test_python_s_own_names_that_are_read(self):
        for where, node in self.nodes(ast.Name):
            if isinstance(node.ctx, ast.Load) and node.id in dir(builtins):
                self.assertIn(node.id, BUILT_IN, where)

    def test_methods_and_values(self):
        values, methods = set(), set()
        for tree in self.trees.values():
            values |= attribute_values(tree)
            methods |= method_names(tree)
        self.assertEqual(values & methods, set())
        for where, node in self.nodes(ast.Attribute):
            self.assertIn(node.attr, values | methods | set(METHODS), where)

    def test_is_stands_beside_none_true_and_false_alone(self):
        for where, node in self.nodes(ast.Compare):
            for sign, right in zip(node.ops, node.comparators):
                if isinstance(sign, (ast.Is, ast.IsNot)):
                    self.assertIsInstance(right, ast.Constant, where)
                    self.assertIn(right.value, (None, True, False), where)

    def test_sets_are_asked_on_the_spot(self):
        for where, node, above in self.nodes_with_above(ast.Call, ast.Set, ast.SetComp):
            if not isinstance(node, ast.Call) or called(node) in ("set", "frozenset"):
                self.assertNotEqual(called(node), "frozenset", where)
                self.assertTrue(called(above) in ("len", "sorted") or isinstance(above, ast.Compare), where)

    def test_what_is_walked_at_once(self):
        for where, node, above in self.nodes_with_above(ast.Call):
            if called(node) in ("zip", "enumerate", "reversed", "range", "items", "keys", "values"):
                walked = isinstance(above, (ast.For, ast.comprehension)) and above.iter == node
                self.assertTrue(walked or called(above) in WALKERS, where)

    def test_what_stands_at_a_file_s_top(self):
        for name, tree in self.trees.items():
            for part in tree.body[1:]:
                self.assertIsInstance(part, (ast.ImportFrom, ast.FunctionDef, ast.ClassDef, ast.Assign), name)
            self.assertIsNotNone(ast.get_docstring(tree), name)


if __name__ == "__main__":
    unittest.main()
