"""The package keeps to the part of Python that it is written in, as far as a short look at its files can tell."""

import ast
import builtins
import pathlib
import re
import unittest

PACKAGE = pathlib.Path(__file__).resolve().parent.parent / "twolists"

BUILT_IN = set("""len range enumerate zip min max sum abs sorted reversed int str bool list tuple dict set frozenset
isinstance ord repr any all divmod Exception ValueError TypeError KeyError IndexError LookupError ZeroDivisionError
ArithmeticError OverflowError RuntimeError NotImplementedError AttributeError StopIteration""".split())

METHODS = set("""append clear copy count endswith extend find get index insert isalnum isalpha isdigit islower isspace
isupper items join keys ljust lower lstrip partition pop remove replace reverse rfind rjust rpartition rsplit rstrip
setdefault split splitlines startswith strip update upper values zfill bit_length""".split())

NODES = (ast.Module, ast.FunctionDef, ast.arguments, ast.arg, ast.ClassDef, ast.Return, ast.Assign, ast.AugAssign,
         ast.For, ast.While, ast.If, ast.Raise, ast.Try, ast.ExceptHandler, ast.ImportFrom, ast.alias, ast.Expr,
         ast.Pass, ast.Break, ast.Continue, ast.BoolOp, ast.BinOp, ast.UnaryOp, ast.Lambda, ast.IfExp, ast.Dict,
         ast.Set, ast.ListComp, ast.comprehension, ast.Compare, ast.Call, ast.JoinedStr, ast.FormattedValue,
         ast.Constant, ast.Attribute, ast.Subscript, ast.Slice, ast.Name, ast.List, ast.Tuple, ast.keyword,
         ast.expr_context, ast.boolop, ast.operator, ast.unaryop, ast.cmpop)

# Names that Python's own values have; an object's own methods and values are called otherwise, but for these.
TAKEN = {name for kind in (str, int, list, dict, set, frozenset, tuple, bytes) for name in dir(kind)}
FREE_METHODS = METHODS | {"add", "discard", "__init__", "__eq__", "__repr__", "__str__", "__len__"}
FREE_VALUES = set("count index title find get join lower upper split strip copy add".split())

NAMES_NOT_USED = set("""register mro elements open input version_info with_traceback add_note attrgetter breakpoint
builtins compile copyright credits delattr dir eval exec exit gc getattr globals hasattr help id importlib license
locals methodcaller os quit setattr super type vars sys chr print""".split())

WORDS_LEFT_OUT = re.compile(r"\b(type|typing|enum|Enum|Flag|Generic|Protocol|ABC|namedtuple|NamedTuple)\b"
                            r"|dataclass|overload|contextmanager")


def files():
    return sorted(path for path in PACKAGE.rglob("*") if path.is_file() and path.suffix != ".pyc")


def nodes(path):
    return list(ast.walk(ast.parse(path.read_text("ascii"))))


def names_bound(tree):
    """All names that a file gives a meaning to."""
    bound = set()
    for node in tree:
        if isinstance(node, ast.Name) and isinstance(node.ctx, ast.Store):
            bound.add(node.id)
        elif isinstance(node, ast.arg):
            bound.add(node.arg)
        elif isinstance(node, (ast.FunctionDef, ast.ClassDef)):
            bound.add(node.name)
        elif isinstance(node, ast.alias):
            bound.add(node.name)
    return bound


class Files(unittest.TestCase):
    def test_only_python_files(self):
        self.assertIn("desk.py", [path.name for path in files()])
        for path in files():
            self.assertRegex(path.name, r"\A[a-z_]+\.py\Z")

    def test_sizes_and_signs(self):
        for path in files():
            text = path.read_text("ascii")
            lines = text.split("\n")
            self.assertLessEqual(len(lines), 401, path)
            self.assertLessEqual(max(len(line) for line in lines), 120, path)
            self.assertRegex(text, r"\A[ -~\n]*\Z", path)
            self.assertIsNone(WORDS_LEFT_OUT.search(text), path)


class Code(unittest.TestCase):
    def test_kinds_of_statement_and_expression(self):
        for path in files():
            for node in nodes(path):
                self.assertIsInstance(node, NODES, (path, getattr(node, "lineno", None)))
                self.assertNotIsInstance(node, (ast.Div, ast.MatMult), path)
                if isinstance(node, ast.Constant):
                    self.assertNotIsInstance(node.value, (float, bytes, complex), (path, node.lineno))
                if isinstance(node, ast.Assign):
                    self.assertEqual(1, len(node.targets), (path, node.lineno))
                if isinstance(node, (ast.For, ast.While)):
                    self.assertEqual([], node.orelse, (path, node.lineno))
                if isinstance(node, ast.ListComp):
                    self.assertEqual(1, len(node.generators), (path, node.lineno))
                    self.assertLessEqual(len(node.generators[0].ifs), 1, (path, node.lineno))

    def test_functions(self):
        for path in files():
            for node in nodes(path):
                if isinstance(node, ast.FunctionDef):
                    self.assertLessEqual(node.end_lineno - node.lineno + 1, 40, (path, node.name))
                    self.assertEqual([], node.decorator_list, (path, node.name))
                    self.assertEqual([], node.args.kwonlyargs, (path, node.name))
                    self.assertIsNone(node.args.vararg, (path, node.name))
                    self.assertIsNone(node.args.kwarg, (path, node.name))

    def test_imports(self):
        modules = ["twolists." + path.stem for path in files()]
        for path in files():
            for node in nodes(path):
                if isinstance(node, ast.ImportFrom):
                    self.assertEqual(0, node.level, path)
                    self.assertIn(node.module, modules, path)

    def test_names(self):
        own_methods = {node.name for path in files() for node in nodes(path) if isinstance(node, ast.FunctionDef)}
        for path in files():
            tree = nodes(path)
            bound = names_bound(tree)
            self.assertEqual(set(), bound & BUILT_IN, path)
            for node in tree:
                if isinstance(node, ast.Name):
                    self.assertIn(node.id, bound | BUILT_IN, (path, node.lineno))
                if isinstance(node, ast.Call) and isinstance(node.func, ast.Attribute):
                    self.assertIn(node.func.attr, own_methods | METHODS, (path, node.lineno))

    def test_names_of_methods_and_values(self):
        methods = set()
        values = set()
        for path in files():
            for node in nodes(path):
                if isinstance(node, ast.ClassDef):
                    methods |= {one.name for one in node.body if isinstance(one, ast.FunctionDef)}
                if isinstance(node, ast.Attribute) and isinstance(node.ctx, ast.Store):
                    values.add(node.attr)
        self.assertEqual(set(), methods & TAKEN - FREE_METHODS)
        self.assertEqual(set(), values & TAKEN - FREE_VALUES)
        self.assertEqual(set(), methods & values)

    def test_names_that_are_not_used(self):
        for path in files():
            tree = nodes(path)
            bound = names_bound(tree)
            self.assertEqual(set(), bound & (set(dir(builtins)) | NAMES_NOT_USED), path)
            for name in bound:
                self.assertRegex(name, r"\A([A-Za-z][A-Za-z0-9_]*|__init__)\Z", path)
            for node in tree:
                if isinstance(node, ast.Attribute):
                    self.assertNotIn(node.attr, NAMES_NOT_USED, (path, node.lineno))

    def test_no_parameter_or_local_is_called_like_an_import_or_class(self):
        for path in files():
            tree = nodes(path)
            taken = {node.name for node in tree if isinstance(node, (ast.alias, ast.ClassDef))}
            inner = {node.arg for node in tree if isinstance(node, ast.arg)}
            inner |= {node.id for node in tree if isinstance(node, ast.Name) and isinstance(node.ctx, ast.Store)}
            self.assertEqual(set(), taken & inner, path)

    def test_files_draw_from_one_another_in_one_direction(self):
        drawn = {path.stem: {node.module.split(".")[1] for node in nodes(path) if isinstance(node, ast.ImportFrom)}
                 for path in files()}
        while drawn:
            free = [name for name in drawn if not drawn[name] & set(drawn)]
            self.assertNotEqual([], free, drawn)
            for name in free:
                drawn.pop(name)


if __name__ == "__main__":
    unittest.main()
