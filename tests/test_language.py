"""The package keeps to the part of Python that it is written in, as far as a short look at its files can tell."""

import ast
import pathlib
import re
import unittest

PACKAGE = pathlib.Path(__file__).resolve().parent.parent / "twolists"

BUILT_IN = set("""len range enumerate zip min max sum abs sorted reversed int str bool list tuple dict set frozenset
isinstance ord repr any all divmod Exception ValueError TypeError KeyError IndexError LookupError ZeroDivisionError
ArithmeticError OverflowError RuntimeError NotImplementedError AttributeError StopIteration""".split())

METHODS = set("""append clear copy count endswith extend find get index insert isalnum isalpha isdigit islower isspace
isupper items join keys ljust lower lstrip partition pop remove replace reverse rfind rjust rpartition rsplit rstrip
setdefault split splitlines startswith strip update upper values zfill bit_length""".split())

NODES = (ast.Module, ast.FunctionDef, ast.arguments, ast.arg, ast.ClassDef, ast.Return, ast.Assign, ast.AugAssign,
         ast.For, ast.While, ast.If, ast.Raise, ast.Try, ast.ExceptHandler, ast.ImportFrom, ast.alias, ast.Expr,
         ast.Pass, ast.Break, ast.Continue, ast.BoolOp, ast.BinOp, ast.UnaryOp, ast.Lambda, ast.IfExp, ast.Dict,
         ast.Set, ast.ListComp, ast.comprehension, ast.Compare, ast.Call, ast.JoinedStr, ast.FormattedValue,
         ast.Constant, ast.Attribute, ast.Subscript, ast.Slice, ast.Name, ast.List, ast.Tuple, ast.keyword,
         ast.expr_context, ast.boolop, ast.operator, ast.unaryop, ast.cmpop)

WORDS_LEFT_OUT = re.compile(r"\b(type|typing|enum|Enum|Flag|Generic|Protocol|ABC|namedtuple|NamedTuple)\b"
                            r"|dataclass|overload|contextmanager")


def files():
    return sorted(path for path in PACKAGE.rglob("*") if path.is_file() and path.suffix != ".pyc")


def nodes(path):
    return list(ast.walk(ast.parse(path.read_text("ascii"))))


def names_bound(tree):
    """All names that a file gives a meaning to."""
    bound = set()
    for node in tree:
        if isinstance(node, ast.Name) and isinstance(node.ctx, ast.Store):
            bound.add(node.id)
        elif isinstance(node, ast.arg):
            bound.add(node.arg)
        elif isinstance(node, (ast.FunctionDef, ast.ClassDef)):
            bound.add(node.name)
        elif isinstance(node, ast.alias):
            bound.add(node.name)
    return bound


class Files(unittest.TestCase):
    def test_only_python_files(self):
        self.assertIn("desk.py", [path.name for path in files()])
        for path in files():
            self.assertRegex(path.name, r"\A[a-z_]+\.py\Z")

    def test_sizes_and_signs(self):
        for path in files():
            text = path.read_text("ascii")
            lines = text.split("\n")
            self.assertLessEqual(len(lines), 401, path)
            self.assertLessEqual(max(len(line) for line in lines), 120, path)
            self.assertRegex(text, r"\A[ -~\n]*\Z", path)
            self.assertIsNone(WORDS_LEFT_OUT.search(text), path)


class Code(unittest.TestCase):
    def test_kinds_of_statement_and_expression(self):
        for path in files():
            for node in nodes(path):
                self.assertIsInstance(node, NODES, (path, getattr(node, "lineno", None)))
                self.assertNotIsInstance(node, (ast.Div, ast.MatMult), path)
                if isinstance(node, ast.Constant):
                    self.assertNotIsInstance(node.value, (float, bytes, complex), (path, node.lineno))
                if isinstance(node, ast.Assign):
                    self.assertEqual(1, len(node.targets), (path, node.lineno))
                if isinstance(node, (ast.For, ast.While)):
                    self.assertEqual([], node.orelse, (path, node.lineno))
                if isinstance(node, ast.ListComp):
                    self.assertEqual(1, len(node.generators), (path, node.lineno))
                    self.assertLessEqual(len(node.generators[0].ifs), 1, (path, node.lineno))

    def test_functions(self):
        for path in files():
            for node in nodes(path):
                if isinstance(node, ast.FunctionDef):
                    self.assertLessEqual(node.end_lineno - node.lineno + 1, 40, (path, node.name))
                    self.assertEqual([], node.decorator_list, (path, node.name))
                    self.assertEqual([], node.args.kwonlyargs, (path, node.name))
                    self.assertIsNone(node.args.vararg, (path, node.name))
                    self.assertIsNone(node.args.kwarg, (path, node.name))

    def test_imports(self):
        modules = ["twolists." + path.stem for path in files()]
        for path in files():
            for node in nodes(path):
                if isinstance(node, ast.ImportFrom):
                    self.assertEqual(0, node.level, path)
                    self.assertIn(node.module, modules, path)

    def test_names(self):
        own_methods = {node.name for path in files() for node in nodes(path) if isinstance(node, ast.FunctionDef)}
        for path in files():
            tree = nodes(path)
            bound = names_bound(tree)
            self.assertEqual(set(), bound & BUILT_IN, path)
            for node in tree:
                if isinstance(node, ast.Name):
                    self.assertIn(node.id, bound | BUILT_IN, (path, node.lineno))
                if isinstance(node, ast.Call) and isinstance(node.func, ast.Attribute):
                    self.assertIn(node.func.attr, own_methods | METHODS, (path, node.lineno))


if __name__ == "__main__":
    unittest.main()
