"""The package keeps to its part of Python: those rules that a look at each file can see."""

import ast
import builtins
import pathlib
import re
import unittest

PACKAGE = pathlib.Path(__file__).resolve().parent.parent / "pairedthrows"

NODES = """
Module Expr Constant ImportFrom alias FunctionDef arguments arg Lambda ClassDef Assign AugAssign If While For
Return Break Continue Pass Raise Try ExceptHandler Call keyword Name Attribute Subscript Slice List Tuple Dict Set
BinOp UnaryOp BoolOp Compare IfExp ListComp comprehension JoinedStr FormattedValue Load Store
Add Sub Mult FloorDiv Mod Pow BitAnd BitOr BitXor LShift RShift Invert Not USub UAdd And Or
Eq NotEq Lt LtE Gt GtE Is IsNot In NotIn
""".split()

BUILTINS = """
len range enumerate zip min max sum abs sorted reversed int str bool list tuple dict set frozenset isinstance ord
repr any all divmod Exception ValueError TypeError KeyError IndexError LookupError ZeroDivisionError
ArithmeticError OverflowError RuntimeError NotImplementedError AttributeError StopIteration
""".split()

METHODS = """
append clear copy count endswith extend find get index insert isalnum isalpha isdigit islower isspace isupper items
join keys ljust lower lstrip partition pop remove replace reverse rfind rjust rpartition rsplit rstrip setdefault
split splitlines startswith strip update upper values zfill bit_length
""".split()

WORDS_OUT = """
type typing typing_extensions enum Enum IntEnum StrEnum Flag IntFlag Generic Protocol ABC ABCMeta namedtuple
NamedTuple TypedDict TYPE_CHECKING abstractmethod
""".split()

NAMES_OUT = """
register mro elements open input version_info with_traceback add_note attrgetter breakpoint builtins compile
copyright credits delattr dir eval exec exit gc getattr globals hasattr help id importlib license locals
methodcaller os quit setattr super vars sys format format_map chr
""".split()

WALKED = "zip enumerate reversed range items keys values".split()

WALKERS = "list tuple dict sorted sum any all enumerate zip min max".split()


def files():
    return sorted(PACKAGE.glob("*.py"))


def bound_names(tree):
    for node in ast.walk(tree):
        if isinstance(node, ast.Name) and isinstance(node.ctx, ast.Store):
            yield node.id
        if isinstance(node, (ast.FunctionDef, ast.ClassDef)):
            yield node.name
        if isinstance(node, ast.arg):
            yield node.arg


def imported_names(tree):
    return [alias.name for node in tree.body if isinstance(node, ast.ImportFrom) for alias in node.names]


def own_methods():
    return {part.name for path in files() for node in ast.walk(ast.parse(path.read_text()))
            if isinstance(node, ast.ClassDef) for part in node.body if isinstance(part, ast.FunctionDef)}


class Language(unittest.TestCase):
    @staticmethod
    def each():
        for path in files():
            text = path.read_text(encoding="utf-8")
            yield path, text, ast.parse(text, path.name)

    def test_only_plain_files(self):
        names = [path.name for path in PACKAGE.iterdir() if path.name != "__pycache__"]
        self.assertIn("__init__.py", names)
        for name in names:
            self.assertRegex(name, r"\A([a-z][a-z0-9_]*|__init__|__main__)\.py\Z")

    def test_signs_and_sizes(self):
        for _, text, tree in self.each():
            self.assertRegex(text, r"\A[ -~\n]*\Z")
            lines = text.split("\n")
            self.assertLessEqual(len(lines), 400)
            self.assertLessEqual(max(map(len, lines)), 120)
            for node in ast.walk(tree):
                if isinstance(node, ast.FunctionDef):
                    self.assertLessEqual(node.end_lineno - node.lineno + 1, 40, node.name)

    def test_words_that_stand_nowhere(self):
        for _, text, _ in self.each():
            self.assertEqual(set(re.findall(r"\w+", text)) & set(WORDS_OUT), set())
            self.assertIsNone(re.search("dataclass|overload|contextmanager", text))

    def test_statements_and_expressions(self):
        for _, _, tree in self.each():
            for node in ast.walk(tree):
                self.assertIn(type(node).__name__, NODES, ast.dump(node))
                if isinstance(node, ast.Assign):
                    self.assertEqual(len(node.targets), 1)
                if isinstance(node, (ast.While, ast.For)):
                    self.assertEqual(node.orelse, [])
                if isinstance(node, ast.Try):
                    self.assertEqual(node.finalbody, [])
                if isinstance(node, ast.Constant):
                    self.assertIn(type(node.value), (int, str, bool, type(None)))
                    self.assertNotIn("%", str(node.value))
                if isinstance(node, ast.BinOp) and isinstance(node.op, ast.Pow):
                    self.assertIsInstance(node.right, ast.Constant)
                if isinstance(node, ast.ListComp):
                    self.assertEqual(len(node.generators), 1)
                    self.assertLessEqual(len(node.generators[0].ifs), 1)
                if isinstance(node, ast.FormattedValue):
                    self.assertIsInstance(node.value, ast.Name)
                if isinstance(node, ast.Expr) and node is not tree.body[0]:
                    self.assertIsInstance(node.value, ast.Call)

    def test_is_stands_beside_none_true_false(self):
        for _, _, tree in self.each():
            for node in ast.walk(tree):
                if isinstance(node, ast.Compare) and isinstance(node.ops[0], (ast.Is, ast.IsNot)):
                    self.assertIn(repr(getattr(node.comparators[0], "value", "")), ("None", "True", "False"))

    def test_defs_are_plain(self):
        for _, _, tree in self.each():
            for node in ast.walk(tree):
                if isinstance(node, (ast.FunctionDef, ast.ClassDef)):
                    self.assertEqual(node.decorator_list, [])
                if isinstance(node, ast.FunctionDef):
                    self.assertIsNone(node.returns)
                if isinstance(node, ast.arguments):
                    self.assertEqual((node.vararg, node.kwarg, node.kwonlyargs, node.posonlyargs),
                                     (None, None, [], []))
                if isinstance(node, ast.ClassDef):
                    self.assertLessEqual(len(node.bases), 1)
                    for part in node.body:
                        self.assertIsInstance(part, (ast.FunctionDef, ast.Pass))

    def test_imports_are_the_package_s_own(self):
        for _, _, tree in self.each():
            for node in ast.walk(tree):
                if isinstance(node, ast.ImportFrom):
                    self.assertIn(node, tree.body)
                    self.assertEqual(node.level, 0)
                    self.assertTrue(node.module.startswith("pairedthrows."))
                    defining = PACKAGE / (node.module.split(".")[1] + ".py")
                    defined = set(bound_names(ast.parse(defining.read_text())))
                    for alias in node.names:
                        self.assertIn(alias.name, defined)

    def test_no_two_files_draw_from_one_another(self):
        drawn = {}
        for path, _, tree in self.each():
            drawn[path.stem] = {node.module.split(".")[1] for node in tree.body if isinstance(node, ast.ImportFrom)}
        while drawn:
            free = [name for name in drawn if not drawn[name] & set(drawn)]
            self.assertNotEqual(free, [], drawn)
            drawn = {name: drawn[name] for name in drawn if name not in free}

    def test_values_of_a_file_s_top_are_plain(self):
        for _, _, tree in self.each():
            for node in tree.body:
                if isinstance(node, ast.Assign):
                    self.assertIsNotNone(ast.literal_eval(node.value))
                    parts = [part for part in ast.walk(node.value) if isinstance(part, (ast.List, ast.Dict))]
                    self.assertIn(parts, ([], [node.value]))

    def test_keywords(self):
        allowed = {"sorted": ("key", "reverse"), "min": ("key", "default"), "max": ("key", "default"),
                   "sum": ("start",), "enumerate": ("start",), "zip": ("strict",)}
        for _, _, tree in self.each():
            for node in ast.walk(tree):
                if isinstance(node, ast.Call) and node.keywords:
                    for keyword in node.keywords:
                        self.assertIn(keyword.arg, allowed.get(getattr(node.func, "id", ""), ()))

    def test_names(self):
        for _, text, tree in self.each():
            bound = [name for name in bound_names(tree) if name != "__init__"]
            tops = [node.name for node in tree.body if isinstance(node, (ast.FunctionDef, ast.ClassDef))]
            tops += [node.targets[0].id for node in tree.body if isinstance(node, ast.Assign)]
            self.assertEqual(len(tops), len(set(tops)))
            for name in bound:
                self.assertFalse(name.startswith("_"), name)
                self.assertFalse(hasattr(builtins, name), name)
                self.assertNotIn(name, NAMES_OUT)
                self.assertNotIn(name, imported_names(tree))
            for node in ast.walk(tree):
                if isinstance(node, ast.Name) and isinstance(node.ctx, ast.Load):
                    known = node.id in bound or node.id in imported_names(tree) or node.id in BUILTINS
                    self.assertTrue(known, node.id)

    def test_methods_of_python_s_own(self):
        own = own_methods()
        for _, _, tree in self.each():
            for node in ast.walk(tree):
                if isinstance(node, ast.Call) and isinstance(node.func, ast.Attribute):
                    self.assertIn(node.func.attr, METHODS + sorted(own))

    def test_what_is_walked_at_once(self):
        for _, _, tree in self.each():
            free = set()
            for node in ast.walk(tree):
                if isinstance(node, (ast.For, ast.comprehension)):
                    free.add(node.iter)
                if isinstance(node, ast.Call) and isinstance(node.func, ast.Name) and node.func.id in WALKERS:
                    free.add(node.args[0])
                    if node.func.id == "zip":
                        free.update(node.args)
            for node in ast.walk(tree):
                if isinstance(node, ast.Call) and node not in free:
                    name = getattr(node.func, "id", None) or getattr(node.func, "attr", None)
                    self.assertNotIn(name, WALKED, ast.dump(node))

    def test_sets_are_not_kept(self):
        for _, _, tree in self.each():
            free = set()
            for node in ast.walk(tree):
                if isinstance(node, ast.Call) and isinstance(node.func, ast.Name) and node.func.id in ("len", "sorted"):
                    free.add(node.args[0])
                if isinstance(node, ast.Compare):
                    free.update([node.left] + node.comparators)
            for node in ast.walk(tree):
                self.assertNotIsInstance(node, ast.Set)
                if isinstance(node, ast.Call) and isinstance(node.func, ast.Name) and node.func.id in ("set", "frozenset"):
                    self.assertIn(node, free)


if __name__ == "__main__":
    unittest.main()
