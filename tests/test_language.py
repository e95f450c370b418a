"""The rules of ../shared/LANGUAGE.md that a look at the package's files can tell (L1 to L3, L5 to L8, L10, L12 to L28).

It is a guard, not the whole: what it lets pass is still to be held against the rules.
"""
import ast
import builtins
import pathlib
import re
import unittest

PACKAGE = pathlib.Path(__file__).resolve().parent.parent / "namehouses"

STATEMENTS = (
    ast.ImportFrom, ast.FunctionDef, ast.ClassDef, ast.Assign, ast.AugAssign, ast.AnnAssign, ast.If, ast.While,
    ast.For, ast.Return, ast.Break, ast.Continue, ast.Pass, ast.Raise, ast.Try, ast.Expr,
)
EXPRESSIONS = (
    ast.BoolOp, ast.BinOp, ast.UnaryOp, ast.Lambda, ast.IfExp, ast.Dict, ast.Set, ast.ListComp, ast.Compare,
    ast.Call, ast.JoinedStr, ast.FormattedValue, ast.Constant, ast.Attribute, ast.Subscript, ast.Name, ast.List,
    ast.Tuple, ast.Slice,
)
OWN_NAMES = set("""
len range enumerate zip min max sum abs sorted reversed int str bool list tuple dict set frozenset isinstance ord repr
any all divmod Exception ValueError TypeError KeyError IndexError LookupError ZeroDivisionError ArithmeticError
OverflowError RuntimeError NotImplementedError AttributeError StopIteration
""".split())
METHODS = set("""
append clear copy count endswith extend find get index insert isalnum isalpha isdigit islower isspace isupper items
join keys ljust lower lstrip partition pop remove replace reverse rfind rjust rpartition rsplit rstrip setdefault
split splitlines startswith strip update upper values zfill bit_length
""".split())
NOT_USED = set("register mro elements open input version_info with_traceback add_note format format_map".split())
WORDS = re.compile(
    r"\b(type|typing|typing_extensions|enum|Enum|IntEnum|StrEnum|Flag|IntFlag|Generic|Protocol|ABC|ABCMeta"
    r"|namedtuple|NamedTuple|TypedDict|TYPE_CHECKING|abstractmethod)\b|dataclass|overload|contextmanager"
)
SPECIAL = {"__init__", "__eq__", "__repr__", "__str__", "__len__"}
PYTHONS_OWN = {name for kind in (str, int, list, dict, set, tuple, bytes) for name in dir(kind)}


def sources():
    return [(path, path.read_text("utf-8")) for path in sorted(PACKAGE.glob("*.py"))]


def walked():
    for path, text in sources():
        for node in ast.walk(ast.parse(text)):
            yield f"{path.name}:{getattr(node, 'lineno', 0)}", node


def is_docstring(node):
    return isinstance(node.value, ast.Constant) and isinstance(node.value.value, str)


def bound_names(node):
    if isinstance(node, ast.Name) and isinstance(node.ctx, ast.Store):
        return [node.id]
    if isinstance(node, ast.arg):
        return [node.arg]
    if isinstance(node, (ast.FunctionDef, ast.ClassDef)):
        return [node.name]
    return []


class TestLanguage(unittest.TestCase):
    def test_files(self):
        for path in PACKAGE.iterdir():
            if path.name != "__pycache__":
                self.assertRegex(path.name, r"^([a-z][a-z0-9_]*|__init__|__main__)\.py$")

    def test_signs_sizes_and_words(self):
        for path, text in sources():
            self.assertRegex(text, r"\A[ -~\n]*\Z", path)
            self.assertLessEqual(len(text.splitlines()), 400, path)
            self.assertLessEqual(max(len(line) for line in text.splitlines()), 120, path)
            self.assertIsNone(WORDS.search(text), path)

    def test_statements(self):
        for place, node in walked():
            if isinstance(node, ast.stmt):
                self.assertIsInstance(node, STATEMENTS, place)
            if isinstance(node, ast.Expr):
                self.assertTrue(isinstance(node.value, ast.Call) or is_docstring(node), place)
            if isinstance(node, ast.Assign):
                self.assertEqual(len(node.targets), 1, place)
                self.assertNotIsInstance(node.targets[0], (ast.Tuple, ast.List), place)
            if isinstance(node, (ast.For, ast.While)):
                self.assertEqual(node.orelse, [], place)
            if isinstance(node, ast.Try):
                self.assertEqual(node.finalbody, [], place)
            if isinstance(node, ast.ImportFrom):
                self.assertRegex(node.module or "", r"^(namehouses\.[a-z][a-z0-9_]*|__future__)$", place)
                self.assertEqual(node.level, 0, place)

    def test_expressions(self):
        for place, node in walked():
            if isinstance(node, ast.expr):
                self.assertIsInstance(node, EXPRESSIONS, place)
            if isinstance(node, ast.Constant):
                self.assertIn(node.value.__class__, (int, str, bool, None.__class__), place)
            if isinstance(node, (ast.BinOp, ast.AugAssign)):
                self.assertNotIsInstance(node.op, (ast.Div, ast.MatMult), place)
                if isinstance(node.op, ast.Pow):
                    self.assertIsInstance(node.right, ast.Constant, place)
            if isinstance(node, ast.ListComp):
                self.assertEqual(len(node.generators), 1, place)
                self.assertLessEqual(len(node.generators[0].ifs), 1, place)
            if isinstance(node, ast.FormattedValue):
                self.assertIsInstance(node.value, ast.Name, place)
                self.assertIsNone(node.format_spec, place)
            if isinstance(node, ast.Compare) and any(isinstance(op, (ast.Is, ast.IsNot)) for op in node.ops):
                sides = [node.left] + node.comparators
                self.assertTrue(any(isinstance(side, ast.Constant) for side in sides), place)

    def test_functions_and_classes(self):
        for place, node in walked():
            if isinstance(node, ast.FunctionDef):
                self.assertLessEqual(node.end_lineno - node.lineno + 1, 40, place)
                self.assertEqual(node.decorator_list, [], place)
                self.assertEqual((node.args.vararg, node.args.kwarg, node.args.kwonlyargs), (None, None, []), place)
            if isinstance(node, ast.ClassDef):
                self.assertEqual((node.decorator_list, node.keywords), ([], []), place)
                self.assertLessEqual(len(node.bases), 1, place)
                for part in node.body:
                    self.assertIsInstance(part, (ast.FunctionDef, ast.Pass, ast.Expr), place)

    def test_names(self):
        for place, node in walked():
            if isinstance(node, ast.Name) and hasattr(builtins, node.id):
                self.assertIn(node.id, OWN_NAMES, place)
            if isinstance(node, ast.Attribute):
                self.assertNotIn(node.attr, NOT_USED, place)
                if node.attr in PYTHONS_OWN:
                    self.assertIn(node.attr, METHODS | SPECIAL | {"add", "discard"}, place)
            for name in bound_names(node):
                self.assertFalse(name.startswith("_") and name not in SPECIAL, place)
                self.assertFalse(hasattr(builtins, name) and name not in SPECIAL, place)

    def test_no_name_is_a_method_and_a_value(self):
        methods, values = set(), set()
        for place, node in walked():
            if isinstance(node, ast.ClassDef):
                methods |= {part.name for part in node.body if isinstance(part, ast.FunctionDef)}
            if isinstance(node, ast.Attribute) and isinstance(node.ctx, ast.Store):
                values.add(node.attr)
        self.assertEqual(methods & values, set())

    def test_no_local_is_called_like_an_import_or_a_class(self):
        for path, text in sources():
            tree = ast.parse(text)
            taken = {alias.name for part in tree.body if isinstance(part, ast.ImportFrom) for alias in part.names}
            taken |= {part.name for part in tree.body if isinstance(part, ast.ClassDef)}
            for part in tree.body:
                for node in ast.walk(part):
                    if isinstance(node, (ast.Name, ast.arg)):
                        self.assertEqual(set(bound_names(node)) & taken, set(), f"{path.name}:{node.lineno}")

    def test_no_two_files_draw_from_one_another(self):
        drawn = {}
        for path, text in sources():
            imports = [part for part in ast.parse(text).body if isinstance(part, ast.ImportFrom)]
            drawn[path.stem] = {part.module.partition(".")[2] for part in imports}
        while drawn:
            free = [stem for stem in drawn if not drawn[stem] & set(drawn)]
            self.assertNotEqual(free, [], drawn)
            for stem in free:
                drawn.pop(stem)

    def test_lists_and_dicts_of_a_top_are_only_read(self):
        trees = [(path, ast.parse(text)) for path, text in sources()]
        kept = {
            part.targets[0].id for path, tree in trees for part in tree.body
            if isinstance(part, ast.Assign) and isinstance(part.value, (ast.List, ast.Dict))}
        for path, tree in trees:
            # Read are xs[k], k in xs and xs.get(k): so the name stands straight within one of these.
            read = set()
            for node in ast.walk(tree):
                if isinstance(node, ast.Subscript) and isinstance(node.ctx, ast.Load):
                    read.add(node.value)
                if isinstance(node, ast.Compare):
                    read.update(node.comparators)
                if isinstance(node, ast.Attribute) and node.attr == "get":
                    read.add(node.value)
            for node in ast.walk(tree):
                if isinstance(node, ast.Name) and node.id in kept and isinstance(node.ctx, ast.Load):
                    self.assertIn(node, read, f"{path.name}:{node.lineno}")

    def test_what_is_taken(self):
        for place, node in walked():
            if isinstance(node, ast.ExceptHandler):
                self.assertIsNotNone(node.type, place)
                names = {part.id for part in ast.walk(node.type) if isinstance(part, ast.Name)}
                self.assertEqual(names & {"Exception", "TypeError"}, set(), place)
