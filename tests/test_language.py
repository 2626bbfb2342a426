"""The package keeps to the part of Python that it may use: what of the rules can be read off its files."""

import ast
import builtins
import os
import re
import unittest

PACKAGE = os.path.join(os.path.dirname(os.path.dirname(os.path.abspath(__file__))), "callbinds")

OWN_NAMES = set(
    "len range enumerate zip min max sum abs sorted reversed int str bool bytes list tuple dict set frozenset "
    "isinstance ord repr any all divmod Exception ValueError TypeError KeyError IndexError LookupError "
    "ZeroDivisionError ArithmeticError OverflowError RuntimeError NotImplementedError AttributeError "
    "StopIteration".split())

METHODS = set(
    "append clear copy count endswith extend find get index insert isalnum isalpha isdigit islower isspace isupper "
    "items join keys ljust lower lstrip partition pop remove replace reverse rfind rjust rpartition rsplit rstrip "
    "setdefault split splitlines startswith strip update upper values zfill bit_length sort add discard "
    "title capitalize swapcase casefold center removeprefix removesuffix rindex isascii isdecimal isnumeric "
    "istitle isidentifier isprintable __init__".split())

NOT_AS_VALUES = set(
    "items keys values pop update append clear extend insert remove reverse setdefault sort args encode decode hex "
    "fromhex format format_map mro real imag numerator denominator".split())

NEVER = set("register mro elements open input version_info with_traceback add_note".split())

WORDS = re.compile(
    r"\b(type|typing|typing_extensions|enum|Enum|IntEnum|StrEnum|Flag|IntFlag|Generic|Protocol|ABC|ABCMeta|namedtuple"
    r"|NamedTuple|TypedDict|TYPE_CHECKING|abstractmethod)\b|dataclass|overload|contextmanager")

NODES = (
    ast.Module, ast.Expr, ast.Constant, ast.ImportFrom, ast.alias, ast.FunctionDef, ast.ClassDef, ast.arguments,
    ast.arg, ast.Assign, ast.AugAssign, ast.If, ast.While, ast.For, ast.Return, ast.Break, ast.Continue, ast.Pass,
    ast.Raise, ast.Try, ast.ExceptHandler, ast.Assert, ast.Delete, ast.Name, ast.Load, ast.Store, ast.Del,
    ast.Attribute, ast.Subscript, ast.Slice, ast.List, ast.Tuple, ast.Dict, ast.Set, ast.BinOp, ast.UnaryOp,
    ast.BoolOp, ast.Compare, ast.IfExp, ast.Call, ast.keyword, ast.ListComp, ast.DictComp, ast.SetComp,
    ast.comprehension, ast.JoinedStr, ast.FormattedValue, ast.Lambda, ast.Starred, ast.operator, ast.unaryop,
    ast.boolop, ast.cmpop)


def sources():
    """The text of each file of the package, by the file's name."""
    texts = {}
    for name in sorted(os.listdir(PACKAGE)):
        if name != "__pycache__":
            with open(os.path.join(PACKAGE, name), encoding="utf-8", newline="") as file:
                texts[name] = file.read()
    return texts


def bound_at_top(tree):
    """The names that the top of a file binds, those of its imports apart."""
    names = []
    for row in tree.body:
        if isinstance(row, (ast.FunctionDef, ast.ClassDef)):
            names.append(row.name)
        elif isinstance(row, ast.Assign):
            names.extend(target.id for target in row.targets)
    return names


def imported(tree):
    """The tuples (module, name) that a file draws in."""
    return [(row.module, one.asname or one.name)
            for row in ast.walk(tree) if isinstance(row, ast.ImportFrom) for one in row.names]


def locals_of(deed):
    """The parameters and the locals of a def."""
    found = {one.arg for one in deed.args.posonlyargs + deed.args.args + deed.args.kwonlyargs}
    for node in ast.walk(deed):
        if isinstance(node, ast.Name) and not isinstance(node.ctx, ast.Load):
            found.add(node.id)
        elif isinstance(node, (ast.FunctionDef, ast.Lambda)) and node is not deed:
            found |= {one.arg for one in node.args.args}
        elif isinstance(node, ast.ExceptHandler) and node.name:
            found.add(node.name)
    return found


def nodes_of(tree, kind):
    return [node for node in ast.walk(tree) if isinstance(node, kind)]


class Language(unittest.TestCase):
    def setUp(self):
        self.texts = sources()
        self.trees = {name: ast.parse(text) for name, text in self.texts.items()}

    def test_files_and_signs(self):
        for name, text in self.texts.items():
            self.assertRegex(name, r"^(__init__|[a-z][a-z0-9_]*)\.py$")
            self.assertRegex(text, r"\A[\n -~]*\Z", name)
            self.assertLessEqual(len(text.splitlines()), 400, name)
            self.assertLessEqual(max([len(row) for row in text.splitlines()], default=0), 120, name)
            self.assertIsNone(WORDS.search(text), name)
            self.assertNotIn("\\x", text, name)

    def test_kinds_of_nodes(self):
        for name, tree in self.trees.items():
            for node in ast.walk(tree):
                self.assertIsInstance(node, NODES, (name, getattr(node, "lineno", 0)))
                self.assertNotIsInstance(node, (ast.Div, ast.MatMult), name)
                if isinstance(node, ast.Constant):
                    self.assertNotIsInstance(node.value, (float, complex), name)
                if isinstance(node, (ast.For, ast.While)):
                    self.assertEqual(node.orelse, [], name)

    def test_defs_and_classes(self):
        for name, tree in self.trees.items():
            for deed in nodes_of(tree, ast.FunctionDef):
                self.assertLessEqual(deed.end_lineno - deed.lineno + 1, 40, (name, deed.name))
                self.assertEqual(deed.decorator_list, [], (name, deed.name))
                args = deed.args
                self.assertEqual((args.vararg, args.kwarg, args.posonlyargs), (None, None, []), (name, deed.name))
            for kind in nodes_of(tree, ast.ClassDef):
                self.assertIn(kind, tree.body)
                self.assertLessEqual(len(kind.bases), 1)
                self.assertEqual(kind.decorator_list + kind.keywords, [])
                for row in kind.body:
                    self.assertIsInstance(row, (ast.FunctionDef, ast.Expr), (name, kind.name))
                methods = [row.name for row in kind.body if isinstance(row, ast.FunctionDef)]
                self.assertEqual(len(methods), len(set(methods)), kind.name)

    def test_imports(self):
        drawn = {}
        for name, tree in self.trees.items():
            drawn[name] = set()
            for row in nodes_of(tree, ast.ImportFrom):
                self.assertIn(row, tree.body)
                self.assertEqual(row.level, 0)
                self.assertRegex(row.module, r"^callbinds\.[a-z]+$")
            for module, one in imported(tree):
                file = module.split(".")[1] + ".py"
                self.assertIn(one, bound_at_top(self.trees[file]), (name, one))
                drawn[name].add(file)
        while drawn:
            ready = [name for name in drawn if not drawn[name] & set(drawn)]
            self.assertTrue(ready, "files draw from one another")
            drawn = {name: files for name, files in drawn.items() if name not in ready}

    def test_each_name_once_and_used(self):
        for name, tree in self.trees.items():
            top = bound_at_top(tree) + [one for module, one in imported(tree)]
            self.assertEqual(len(top), len(set(top)), name)
            read = {node.id for node in nodes_of(tree, ast.Name) if isinstance(node.ctx, ast.Load)}
            for module, one in imported(tree):
                self.assertIn(one, read, (name, "drawn, and not used"))

    def test_names(self):
        for name, tree in self.trees.items():
            top = bound_at_top(tree) + [one for module, one in imported(tree)]
            kept = {one for module, one in imported(tree)} | {kind.name for kind in nodes_of(tree, ast.ClassDef)}
            given = set(top)
            for deed in nodes_of(tree, ast.FunctionDef):
                own = locals_of(deed)
                given |= own
                for word in own:
                    self.assertFalse(hasattr(builtins, word), (name, deed.name, word))
                    self.assertNotIn(word, kept, (name, deed.name))
            for word in given | {deed.name for deed in nodes_of(tree, ast.FunctionDef)} - {"__init__"}:
                self.assertFalse(word.startswith("_") and word != "__init__", (name, word))
                self.assertNotIn(word, NEVER, name)
            for node in nodes_of(tree, ast.Name):
                if node.id not in given:
                    self.assertIn(node.id, OWN_NAMES, (name, node.lineno))

    def test_methods_and_values(self):
        methods, values = set(), set()
        for tree in self.trees.values():
            for kind in nodes_of(tree, ast.ClassDef):
                methods |= {row.name for row in kind.body if isinstance(row, ast.FunctionDef)}
            for node in nodes_of(tree, ast.Attribute):
                if isinstance(node.ctx, ast.Store):
                    values.add(node.attr)
        self.assertEqual(methods & values, set())
        self.assertEqual(values & NOT_AS_VALUES, set())
        for name, tree in self.trees.items():
            called = {id(call.func) for call in nodes_of(tree, ast.Call)}
            for node in nodes_of(tree, ast.Attribute):
                self.assertNotIn(node.attr, NEVER, name)
                if id(node) in called:
                    self.assertIn(node.attr, methods | METHODS, (name, node.lineno))
                else:
                    self.assertIn(node.attr, values, (name, node.lineno))

    def test_is_stands_beside_none_true_false(self):
        for name, tree in self.trees.items():
            for node in nodes_of(tree, ast.Compare):
                for sign, right in zip(node.ops, node.comparators):
                    if isinstance(sign, (ast.Is, ast.IsNot)):
                        self.assertIsInstance(right, ast.Constant, (name, node.lineno))
                        self.assertIn(right.value, (None, True, False), (name, node.lineno))

    def test_errors_are_made_where_they_are_raised(self):
        for name, tree in self.trees.items():
            for row in nodes_of(tree, ast.Raise):
                if row.exc is not None:
                    self.assertIsInstance(row.exc, ast.Call, (name, row.lineno))
                    self.assertIsInstance(row.exc.func, ast.Name, (name, row.lineno))

    def test_lists_and_dicts_of_a_top_hold_none(self):
        for name, tree in self.trees.items():
            for row in tree.body:
                if isinstance(row, ast.Assign):
                    inner = [node for node in nodes_of(row.value, (ast.List, ast.Dict)) if node is not row.value]
                    self.assertEqual(inner, [], (name, row.lineno))


if __name__ == "__main__":
    unittest.main()
