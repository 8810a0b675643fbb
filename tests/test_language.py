"""The rows of LANGUAGE.md that can be read off the package's files one by one."""

import ast
import pathlib
import re
import unittest

PACKAGE = pathlib.Path(__file__).resolve().parent.parent / "lategone"

STATEMENTS = (ast.Assign, ast.AugAssign, ast.If, ast.While, ast.For, ast.Return, ast.Break, ast.Continue, ast.Pass,
              ast.Raise, ast.Try, ast.Expr, ast.FunctionDef, ast.ClassDef, ast.ImportFrom)
EXPRESSIONS = (ast.Constant, ast.List, ast.Tuple, ast.Dict, ast.Set, ast.BinOp, ast.UnaryOp, ast.BoolOp, ast.Compare,
               ast.IfExp, ast.Call, ast.Attribute, ast.Subscript, ast.Slice, ast.ListComp, ast.JoinedStr,
               ast.FormattedValue, ast.Name, ast.Lambda)
BUILT_IN = set("""len range enumerate zip min max sum abs sorted reversed int str bool list tuple dict set frozenset
    isinstance ord repr any all divmod Exception ValueError TypeError KeyError IndexError LookupError
    ZeroDivisionError ArithmeticError OverflowError RuntimeError NotImplementedError AttributeError
    StopIteration""".split())
METHODS = set("""append clear copy count endswith extend find get index insert isalnum isalpha isdigit islower isspace
    isupper items join keys ljust lower lstrip partition pop remove replace reverse rfind rjust rpartition rsplit
    rstrip setdefault split splitlines startswith strip update upper values zfill bit_length""".split())
WORDS = re.compile(r"\b(type|typing|typing_extensions|enum|Enum|IntEnum|StrEnum|Flag|IntFlag|Generic|Protocol|ABC"
                   r"|ABCMeta|namedtuple|NamedTuple|TypedDict|TYPE_CHECKING|abstractmethod)\b"
                   r"|dataclass|overload|contextmanager")
UNUSED = set("""register mro elements open input version_info with_traceback add_note format format_map""".split())
NAME = re.compile(r"[A-Za-z][A-Za-z0-9_]*|__(init|eq|repr|str|len)__")


def files():
    return sorted(PACKAGE.rglob("*.py"))


def nodes(kinds):
    for path in files():
        for node in ast.walk(ast.parse(path.read_text())):
            if isinstance(node, kinds):
                yield path.name, node


def own_names():
    """What the package's files bind: by def, class, parameter, assignment, import."""
    names = {node.name for _, node in nodes((ast.FunctionDef, ast.ClassDef))}
    names |= {node.arg for _, node in nodes(ast.arg)}
    names |= {node.id for _, node in nodes(ast.Name) if isinstance(node.ctx, ast.Store)}
    names |= {alias.name for _, node in nodes(ast.ImportFrom) for alias in node.names}
    return names | {node.name for _, node in nodes(ast.ExceptHandler) if node.name}


class Language(unittest.TestCase):
    def test_files_and_signs(self):
        for path in PACKAGE.rglob("*"):
            if "__pycache__" in path.parts:
                continue
            if path.is_dir():
                self.assertTrue((path / "__init__.py").is_file(), path)
                continue
            self.assertEqual(path.suffix, ".py")
            text = path.read_bytes().decode("ascii")
            self.assertRegex(text, r"\A[ -~\n]*\Z")
            self.assertIsNone(WORDS.search(text), path)
            lines = text.split("\n")
            self.assertLessEqual(len(lines), 400)
            self.assertLessEqual(max(len(line) for line in lines), 120)

    def test_statements_and_expressions(self):
        for name, node in nodes(ast.stmt):
            self.assertIsInstance(node, STATEMENTS, (name, node.lineno))
            self.assertFalse(isinstance(node, (ast.For, ast.While)) and node.orelse, (name, node.lineno))
            self.assertFalse(isinstance(node, ast.Try) and node.finalbody, (name, node.lineno))
            self.assertFalse(isinstance(node, ast.Assign) and len(node.targets) > 1, (name, node.lineno))
        for name, node in nodes(ast.expr):
            self.assertIsInstance(node, EXPRESSIONS, (name, node.lineno))
        for name, node in nodes(ast.Constant):
            self.assertIsInstance(node.value, (int, str, type(None)), (name, node.lineno))
        for name, node in nodes(ast.BinOp):
            self.assertNotIsInstance(node.op, (ast.Div, ast.MatMult), (name, node.lineno))
            power = isinstance(node.op, ast.Pow)
            self.assertFalse(power and not isinstance(node.right, ast.Constant), (name, node.lineno))

    def test_texts_with_names_in_braces(self):
        for name, node in nodes(ast.FormattedValue):
            self.assertIsInstance(node.value, ast.Name, (name, node.lineno))
            self.assertIsNone(node.format_spec, (name, node.lineno))

    def test_what_stands_at_the_top(self):
        for path in files():
            for part in ast.parse(path.read_text()).body:
                held = ast.literal_eval(part.value) if isinstance(part, ast.Assign) else None
                for cell in held.values() if isinstance(held, dict) else held if isinstance(held, list) else ():
                    self.assertNotIsInstance(cell, (list, dict), (path.name, part.lineno))

    def test_functions(self):
        for name, node in nodes(ast.FunctionDef):
            self.assertLessEqual(node.end_lineno - node.lineno + 1, 40, (name, node.name))
            self.assertEqual(node.decorator_list, [])
            spread = (node.args.vararg, node.args.kwarg, *node.args.kwonlyargs, *node.args.posonlyargs)
            self.assertEqual(spread, (None, None), (name, node.name))

    def test_classes(self):
        for name, node in nodes(ast.ClassDef):
            self.assertLessEqual(len(node.bases), 1)
            self.assertEqual((node.decorator_list, node.keywords), ([], []))
            for part in node.body:
                self.assertIsInstance(part, (ast.FunctionDef, ast.Pass), (name, part.lineno))

    def test_no_name_is_a_method_and_a_value(self):
        methods = {part.name for _, node in nodes(ast.ClassDef) for part in node.body
                   if isinstance(part, ast.FunctionDef)}
        values = {node.attr for _, node in nodes(ast.Attribute) if isinstance(node.ctx, ast.Store)}
        self.assertEqual(methods & values, set())

    def test_imports(self):
        for name, node in nodes(ast.ImportFrom):
            self.assertEqual(node.level, 0)
            home = PACKAGE.parent.joinpath(*node.module.split(".")).with_suffix(".py")
            self.assertTrue(home.is_file(), (name, node.module))
            top = {part.name for part in ast.parse(home.read_text()).body
                   if isinstance(part, (ast.FunctionDef, ast.ClassDef))}
            top |= {part.targets[0].id for part in ast.parse(home.read_text()).body if isinstance(part, ast.Assign)}
            self.assertLessEqual({alias.name for alias in node.names}, top)

    def test_names(self):
        own = own_names()
        for name in own:
            self.assertIsNotNone(NAME.fullmatch(name), name)
        self.assertEqual(own & (BUILT_IN | UNUSED), set())
        for name, node in nodes(ast.Name):
            self.assertIn(node.id, own | BUILT_IN, (name, node.lineno))

    def test_attributes(self):
        own = {node.name for _, node in nodes(ast.FunctionDef)}
        own |= {node.attr for _, node in nodes(ast.Attribute) if isinstance(node.ctx, ast.Store)}
        for name, node in nodes(ast.Attribute):
            self.assertIn(node.attr, own | METHODS, (name, node.lineno))
            self.assertNotIn(node.attr, UNUSED, (name, node.lineno))

    def test_is_stands_beside_none_true_and_false(self):
        for name, node in nodes(ast.Compare):
            for op, right in zip(node.ops, node.comparators):
                if isinstance(op, (ast.Is, ast.IsNot)):
                    self.assertIsInstance(right, ast.Constant, (name, node.lineno))


if __name__ == "__main__":
    unittest.main()
