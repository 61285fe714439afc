"""The form of the package's own files: what of LANGUAGE.md's rules a reader of the syntax can see."""

import ast
import builtins
import re
import unittest
from pathlib import Path

PACKAGE = Path(__file__).resolve().parent.parent / "boxlines"

STATEMENTS = (ast.FunctionDef, ast.ClassDef, ast.ImportFrom, ast.Assign, ast.AugAssign, ast.If, ast.While, ast.For,
              ast.Return, ast.Break, ast.Continue, ast.Pass, ast.Raise, ast.Try, ast.ExceptHandler, ast.Expr)
EXPRESSIONS = (ast.Constant, ast.Name, ast.List, ast.Tuple, ast.Dict, ast.BinOp, ast.UnaryOp, ast.BoolOp, ast.Compare,
               ast.IfExp, ast.Call, ast.Attribute, ast.Subscript, ast.Slice, ast.ListComp, ast.comprehension,
               ast.Lambda, ast.keyword, ast.arguments, ast.arg, ast.alias, ast.Module, ast.JoinedStr,
               ast.FormattedValue, ast.expr_context, ast.operator, ast.unaryop, ast.boolop, ast.cmpop)
NO_OPERATORS = (ast.Div, ast.MatMult)

OWN_NAMES = set("""len range enumerate zip min max sum abs sorted reversed int str bool list tuple dict set frozenset
    isinstance ord repr any all divmod Exception ValueError TypeError KeyError IndexError LookupError
    ZeroDivisionError ArithmeticError OverflowError RuntimeError NotImplementedError AttributeError
    StopIteration""".split())
OWN_METHODS = set("""append clear copy count endswith extend find get index insert isalnum isalpha isdigit islower
    isspace isupper items join keys ljust lower lstrip partition pop remove replace reverse rfind rjust rpartition
    rsplit rstrip setdefault split splitlines startswith strip update upper values zfill bit_length""".split())
NO_NAMES = set("""register mro elements open input version_info with_traceback add_note attrgetter breakpoint builtins
    compile copyright credits delattr dir eval exec exit gc getattr globals hasattr help id importlib license locals
    methodcaller os quit setattr super vars sys format format_map""".split())
NO_WORDS = re.compile(r"\b(type|typing|typing_extensions|enum|Enum|IntEnum|StrEnum|Flag|IntFlag|Generic|Protocol|ABC"
                      r"|ABCMeta|namedtuple|NamedTuple|TypedDict|TYPE_CHECKING|abstractmethod)\b"
                      r"|dataclass|overload|contextmanager")
WALKED = ("zip", "enumerate", "reversed", "range")
WALKERS = ("list", "tuple", "dict", "sorted", "sum", "any", "all", "enumerate", "zip", "min", "max")


def is_plain(node, defined):
    """Whether a value may stand at a file's top."""
    if isinstance(node, (ast.Tuple, ast.List)):
        return all(is_plain(part, defined) for part in node.elts)
    if isinstance(node, ast.Dict):
        return all(is_plain(part, defined) for part in node.keys + node.values)
    if isinstance(node, ast.UnaryOp):
        return isinstance(node.op, ast.USub) and isinstance(node.operand, ast.Constant)
    if isinstance(node, ast.Name):
        return node.id in defined
    return isinstance(node, ast.Constant) and (node.value is None or isinstance(node.value, (int, str)))


def bound_names(tree):
    """Each name that a file binds, with the node."""
    for node in ast.walk(tree):
        if isinstance(node, ast.Name) and isinstance(node.ctx, ast.Store):
            yield node.id, node
        elif isinstance(node, (ast.FunctionDef, ast.ClassDef)):
            yield node.name, node
        elif isinstance(node, ast.arg):
            yield node.arg, node


class Form(unittest.TestCase):
    def setUp(self):
        self.paths = [path for path in sorted(PACKAGE.iterdir()) if path.name != "__pycache__"]
        self.texts = {path.name: path.read_bytes().decode("ascii") for path in self.paths}
        self.trees = {name: ast.parse(text) for name, text in self.texts.items()}

    def nodes(self):
        for name, tree in self.trees.items():
            for node in ast.walk(tree):
                yield f"{name}:{getattr(node, 'lineno', 0)}", node

    def test_files(self):
        self.assertIn("__init__.py", self.texts)
        for path in self.paths:
            self.assertRegex(path.name, r"^(__init__|[a-z][a-z0-9_]*)\.py$")
            self.assertTrue(path.is_file())

    def test_signs_and_sizes(self):
        for name, text in self.texts.items():
            self.assertRegex(text, r"^[ -~\n]*\Z")
            rows = text.split("\n")
            self.assertLessEqual(len(rows), 400, name)
            self.assertLessEqual(max(len(one) for one in rows), 120, name)
            self.assertIsNone(NO_WORDS.search(text), name)
        for place, node in self.nodes():
            if isinstance(node, ast.FunctionDef):
                self.assertLessEqual(node.end_lineno - node.lineno + 1, 40, place)

    def test_syntax(self):
        for place, node in self.nodes():
            self.assertIsInstance(node, STATEMENTS + EXPRESSIONS, place)
            self.assertNotIsInstance(node, NO_OPERATORS, place)
            if isinstance(node, ast.Assign):
                self.assertEqual(len(node.targets), 1, place)
            if isinstance(node, (ast.For, ast.While)):
                self.assertEqual(node.orelse, [], place)
            if isinstance(node, ast.Try):
                self.assertEqual(node.finalbody, [], place)
            if isinstance(node, ast.ListComp):
                self.assertEqual(len(node.generators), 1, place)
                self.assertLessEqual(len(node.generators[0].ifs), 1, place)
            if isinstance(node, ast.Constant) and isinstance(node.value, str):
                self.assertNotIn("%", node.value, place)
            elif isinstance(node, ast.Constant):
                self.assertIn(node.value.__class__, (int, bool, None.__class__), place)
            if isinstance(node, ast.Compare) and any(isinstance(op, (ast.Is, ast.IsNot)) for op in node.ops):
                self.assertTrue(all(isinstance(part, ast.Constant) for part in node.comparators), place)
            if isinstance(node, ast.BinOp) and isinstance(node.op, ast.Pow):
                self.assertIsInstance(node.right, ast.Constant, place)

    def test_defs(self):
        for place, node in self.nodes():
            if isinstance(node, (ast.FunctionDef, ast.ClassDef)):
                self.assertEqual(node.decorator_list, [], place)
            if isinstance(node, ast.FunctionDef):
                self.assertIsNone(node.returns, place)
            if isinstance(node, ast.arg):
                self.assertIsNone(node.annotation, place)
            if isinstance(node, ast.arguments):
                self.assertEqual((node.vararg, node.kwarg, node.kwonlyargs, node.posonlyargs), (None, None, [], []))

    def test_tops(self):
        for name, tree in self.trees.items():
            defined = []
            self.assertIsNotNone(ast.get_docstring(tree), name)
            for node in tree.body[1:]:
                if isinstance(node, ast.Assign):
                    self.assertTrue(is_plain(node.value, defined), f"{name}:{node.lineno}")
                    defined.append(node.targets[0].id)
                elif isinstance(node, ast.ImportFrom):
                    self.assertRegex(node.module, r"^boxlines\.[a-z_]+$")
                    self.assertEqual(node.level, 0)
                    defined += [one.name for one in node.names]
                else:
                    self.assertIsInstance(node, (ast.FunctionDef, ast.ClassDef), name)
                    defined.append(node.name)
            self.assertEqual(len(defined), len(set(defined)), name)

    def test_imports_come_from_where_names_are_made(self):
        for name, tree in self.trees.items():
            for node in tree.body:
                if isinstance(node, ast.ImportFrom):
                    source = self.trees[node.module.partition(".")[2] + ".py"]
                    made = {bound for bound, where in bound_names(source)}
                    for one in node.names:
                        self.assertIn(one.name, made, name)
                        self.assertIsNone(one.asname, name)

    def test_names(self):
        for name, tree in self.trees.items():
            for bound, node in bound_names(tree):
                place = f"{name}:{node.lineno} {bound}"
                self.assertNotIn(bound, NO_NAMES, place)
                self.assertNotIn(bound, set(dir(builtins)), place)
                if bound != "__init__":
                    self.assertRegex(bound, r"^[A-Za-z][A-Za-z0-9_]*$", place)
            known = {bound for bound, node in bound_names(tree)} | OWN_NAMES
            known |= {one.name for node in tree.body if isinstance(node, ast.ImportFrom) for one in node.names}
            for node in ast.walk(tree):
                if isinstance(node, ast.Name):
                    self.assertIn(node.id, known, f"{name}:{node.lineno}")

    def test_no_local_is_called_like_a_class_or_an_import(self):
        for name, tree in self.trees.items():
            taken = {node.name for node in tree.body if isinstance(node, ast.ClassDef)}
            taken |= {one.name for node in tree.body if isinstance(node, ast.ImportFrom) for one in node.names}
            for bound, node in bound_names(tree):
                if not isinstance(node, (ast.ClassDef, ast.FunctionDef)):
                    self.assertNotIn(bound, taken, f"{name}:{node.lineno}")

    def test_methods_and_values(self):
        methods = set()
        for place, node in self.nodes():
            if isinstance(node, ast.ClassDef):
                methods |= {part.name for part in node.body if isinstance(part, ast.FunctionDef)}
        taken = {one for kind in (str, int, list, dict, set, bytes, tuple) for one in dir(kind)}
        for place, node in self.nodes():
            if isinstance(node, ast.Call) and isinstance(node.func, ast.Attribute):
                self.assertIn(node.func.attr, OWN_METHODS | methods, place)
            if isinstance(node, ast.Attribute) and isinstance(node.ctx, ast.Store):
                self.assertNotIn(node.attr, taken | methods | NO_NAMES, place)

    def test_what_is_walked_on_the_spot(self):
        for name, tree in self.trees.items():
            walked = set()
            for node in ast.walk(tree):
                if isinstance(node, (ast.For, ast.comprehension)):
                    walked.add(node.iter)
                if isinstance(node, ast.Call) and isinstance(node.func, ast.Name) and node.func.id in WALKERS:
                    walked |= set(node.args[:1])
            for node in ast.walk(tree):
                if isinstance(node, ast.Call) and isinstance(node.func, ast.Name) and node.func.id in WALKED:
                    self.assertIn(node, walked, f"{name}:{node.lineno}")


if __name__ == "__main__":
    unittest.main()
