"""The rules of the language that can be read off the package's files line by line or node by node."""

import ast
import builtins
import pathlib
import re
import unittest

PACKAGE = pathlib.Path(__file__).resolve().parent.parent / "ranksure"

NODES = """Module Expr ImportFrom alias FunctionDef ClassDef arguments arg Assign AugAssign If While For Return Break
Continue Pass Raise Try ExceptHandler Constant Name Attribute Subscript Slice List Tuple Dict BinOp UnaryOp BoolOp
Compare IfExp Call keyword Lambda ListComp comprehension JoinedStr FormattedValue Load Store Add Sub Mult FloorDiv Mod
Pow BitAnd BitOr BitXor LShift RShift Invert USub UAdd Not And Or Eq NotEq Lt LtE Gt GtE Is IsNot In NotIn""".split()

OWN_NAMES = """len range enumerate zip min max sum abs sorted reversed int str bool list tuple dict set frozenset
isinstance ord repr any all divmod Exception ValueError KeyError IndexError LookupError ZeroDivisionError
ArithmeticError OverflowError RuntimeError NotImplementedError StopIteration""".split()

METHODS = """append clear copy count endswith extend find get index insert isalnum isalpha isdigit islower isspace
isupper items join keys ljust lower lstrip partition pop remove replace reverse rfind rjust rpartition rsplit rstrip
setdefault split splitlines startswith strip update upper values zfill bit_length""".split()

WORDS = """type typing typing_extensions enum Enum IntEnum StrEnum Flag IntFlag Generic Protocol ABC ABCMeta namedtuple
NamedTuple TypedDict TYPE_CHECKING abstractmethod""".split()


def trees():
    for path in sorted(PACKAGE.glob("*.py")):
        yield path.name, ast.parse(path.read_text(encoding="utf-8"))


class FormTest(unittest.TestCase):
    def test_files(self):
        for path in sorted(PACKAGE.iterdir()):
            if path.name != "__pycache__":
                self.assertRegex(path.name, r"^(__init__|__main__|[a-z][a-z0-9_]*)\.py$")

    def test_signs_sizes_and_words(self):
        for path in sorted(PACKAGE.glob("*.py")):
            text = path.read_text(encoding="utf-8")
            self.assertRegex(text, r"\A[ -~\n]*\Z", path.name)
            rows = text.split("\n")
            self.assertLessEqual(len(rows), 401, path.name)
            self.assertLessEqual(max([len(row) for row in rows]), 120, path.name)
            words = re.findall(r"\w+", text)
            for word in words:
                self.assertNotIn(word, WORDS, path.name)
            self.assertNotRegex(text, "dataclass|overload|contextmanager", path.name)

    def test_statements_and_expressions(self):
        for name, tree in trees():
            for node in ast.walk(tree):
                where = (name, getattr(node, "lineno", None))
                self.assertIn(node.__class__.__name__, NODES, where)
                if isinstance(node, ast.Assign):
                    self.assertEqual([target.__class__ for target in node.targets if isinstance(target, ast.Tuple)], [])
                    self.assertEqual(len(node.targets), 1, where)
                if isinstance(node, (ast.For, ast.While)):
                    self.assertEqual(node.orelse, [], where)
                if isinstance(node, ast.ListComp):
                    self.assertEqual(len(node.generators), 1, where)
                    self.assertLessEqual(len(node.generators[0].ifs), 1, where)
                if isinstance(node, ast.Constant):
                    self.assertIsInstance(node.value, (int, str, bool, None.__class__), where)
                if isinstance(node, ast.FunctionDef):
                    self.assertLessEqual(node.end_lineno - node.lineno + 1, 40, where)
                    self.assertEqual(node.decorator_list, [], where)
                if isinstance(node, ast.ImportFrom):
                    self.assertRegex(node.module, r"^ranksure\.[a-z_]+$", where)
                    self.assertEqual(node.level, 0, where)
                if isinstance(node, ast.Compare) and isinstance(node.ops[0], (ast.Is, ast.IsNot)):
                    self.assertIn(ast.unparse(node.comparators[0]), ("None", "True", "False"), where)

    def test_names(self):
        for name, tree in trees():
            for node in ast.walk(tree):
                where = (name, getattr(node, "lineno", None))
                if isinstance(node, ast.Name) and hasattr(builtins, node.id):
                    self.assertIn(node.id, OWN_NAMES, where)
                    self.assertIsInstance(node.ctx, ast.Load, where)
                if isinstance(node, ast.Name):
                    self.assertFalse(node.id.startswith("_"), where)
                if isinstance(node, ast.arg):
                    self.assertFalse(hasattr(builtins, node.arg), where)
                    self.assertIsNone(node.annotation, where)

    def test_no_local_is_called_like_a_class_or_an_import(self):
        for name, tree in trees():
            taken = [node.name for node in tree.body if isinstance(node, ast.ClassDef)]
            for node in tree.body:
                if isinstance(node, ast.ImportFrom):
                    taken += [one.name for one in node.names]
            for node in ast.walk(tree):
                if isinstance(node, ast.Name) and isinstance(node.ctx, ast.Store):
                    self.assertNotIn(node.id, taken, (name, node.lineno))
                if isinstance(node, ast.arg):
                    self.assertNotIn(node.arg, taken, (name, node.lineno))

    def test_no_name_is_a_method_and_a_value(self):
        methods = []
        values = []
        for name, tree in trees():
            for node in ast.walk(tree):
                if isinstance(node, ast.ClassDef):
                    methods += [one.name for one in node.body if isinstance(one, ast.FunctionDef)]
                if isinstance(node, ast.Attribute) and isinstance(node.ctx, ast.Store):
                    values.append(node.attr)
        self.assertEqual(set(methods) & set(values), set())

    def test_methods(self):
        own = []
        for name, tree in trees():
            for node in ast.walk(tree):
                if isinstance(node, ast.ClassDef):
                    own += [one.name for one in node.body if isinstance(one, ast.FunctionDef)]
        for name, tree in trees():
            for node in ast.walk(tree):
                if isinstance(node, ast.Call) and isinstance(node.func, ast.Attribute):
                    self.assertIn(node.func.attr, METHODS + own, (name, node.lineno))

    def test_no_two_files_draw_from_one_another(self):
        drawn = {}
        for name, tree in trees():
            rows = [node for node in tree.body if isinstance(node, ast.ImportFrom)]
            drawn[name] = [node.module.split(".")[1] + ".py" for node in rows]
        while drawn:
            free = [name for name in drawn if not [other for other in drawn[name] if other in drawn]]
            self.assertNotEqual(free, [], drawn)
            for name in free:
                del drawn[name]


if __name__ == "__main__":
    unittest.main()
