"""The form of the package's code: what of the rules L1 to L28 a look at the files can tell."""

import ast
import builtins
import re
import unittest
from pathlib import Path

PACKAGE = Path(__file__).resolve().parent.parent / "polyring"
FILES = sorted(PACKAGE.rglob("*.py"))

CALLED = set("""len range enumerate zip min max sum abs sorted reversed int str bool list tuple dict set frozenset
    isinstance ord repr any all divmod""".split())
PYTHONS_ERRORS = set("""Exception ValueError TypeError KeyError IndexError LookupError ZeroDivisionError ArithmeticError
    OverflowError RuntimeError NotImplementedError AttributeError StopIteration""".split())
METHODS = set("""append clear copy count endswith extend find get index insert isalnum isalpha isdigit islower isspace
    isupper items join keys ljust lower lstrip partition pop remove replace reverse rfind rjust rpartition rsplit rstrip
    setdefault split splitlines startswith strip update upper values zfill bit_length""".split())
WORDS = set("""type typing typing_extensions enum Enum IntEnum StrEnum Flag IntFlag Generic Protocol ABC ABCMeta namedtuple
    NamedTuple TypedDict TYPE_CHECKING abstractmethod""".split())
NOT_NAMES = set("""register mro elements open input version_info with_traceback add_note attrgetter breakpoint builtins
    compile copyright credits delattr dir eval exec exit gc getattr globals hasattr help id importlib license locals
    methodcaller os quit setattr super vars sys print chr format format_map""".split())
FILE_NAMES_OUT = set(["test", "tests", "testing", "site", "conftest", "sitecustomize", "usercustomize"])
KEYWORDS = {"sorted": ["key", "reverse"], "min": ["key", "default"], "max": ["key", "default"], "sum": ["start"],
            "enumerate": ["start"], "zip": ["strict"]}
STATEMENTS = (ast.Assign, ast.AugAssign, ast.If, ast.While, ast.For, ast.Return, ast.Break, ast.Continue, ast.Pass,
              ast.Raise, ast.Try, ast.Expr, ast.FunctionDef, ast.ClassDef, ast.ImportFrom)
EXPRESSIONS = (ast.BoolOp, ast.BinOp, ast.UnaryOp, ast.Lambda, ast.IfExp, ast.Dict, ast.ListComp, ast.Compare, ast.Call,
               ast.JoinedStr, ast.FormattedValue, ast.Constant, ast.Attribute, ast.Subscript, ast.Name, ast.List,
               ast.Tuple, ast.Slice)
WALKED_AT_ONCE = ("zip", "enumerate", "reversed", "range")


def tree_of(path):
    tree = ast.parse(path.read_text(encoding="ascii"))
    for node in ast.walk(tree):
        for child in ast.iter_child_nodes(node):
            child.parent = node
    return tree


def names_bound(tree):
    """All names that a file gives a value: of defs, parameters, locals, loops."""
    for node in ast.walk(tree):
        if isinstance(node, (ast.FunctionDef, ast.ClassDef)):
            yield node.name
        elif isinstance(node, ast.arg):
            yield node.arg
        elif isinstance(node, ast.Name) and isinstance(node.ctx, ast.Store):
            yield node.id
        elif isinstance(node, ast.ExceptHandler) and node.name:
            yield node.name


def top_names(tree):
    for node in tree.body:
        if isinstance(node, (ast.FunctionDef, ast.ClassDef)):
            yield node.name
        elif isinstance(node, ast.Assign):
            yield node.targets[0].id


def imported_names(tree):
    return [alias.asname or alias.name for node in tree.body if isinstance(node, ast.ImportFrom)
            for alias in node.names]


def is_plain_value(node):
    if isinstance(node, (ast.List, ast.Tuple)):
        return all(is_plain_value(part) for part in node.elts)
    if isinstance(node, ast.Dict):
        return all(is_plain_value(part) for part in node.keys + node.values)
    if isinstance(node, ast.UnaryOp):
        return isinstance(node.op, ast.USub) and is_plain_value(node.operand)
    return isinstance(node, (ast.Constant, ast.Name))


def is_walked_on_the_spot(node):
    parent = node.parent
    if isinstance(parent, (ast.For, ast.comprehension)):
        return parent.iter is node
    return (isinstance(parent, ast.Call) and isinstance(parent.func, ast.Name) and node in parent.args
            and parent.func.id in CALLED - set(["len", "isinstance", "range"]))


class Files(unittest.TestCase):
    def test_only_modules_lie_in_the_package(self):
        self.assertTrue((PACKAGE / "__init__.py").is_file())
        for path in PACKAGE.rglob("*"):
            if "__pycache__" not in path.parts:
                self.assertIn(path, FILES)
                self.assertRegex(path.name, r"\A([a-z][a-z0-9_]*|__init__|__main__)\.py\Z")
                self.assertNotIn(path.stem, FILE_NAMES_OUT | WORDS | set(dir(builtins)))
                self.assertFalse(path.stem.startswith("test_"))

    def test_signs_words_and_sizes(self):
        for path in FILES:
            text = path.read_bytes().decode("ascii")
            self.assertIsNone(re.search(r"[^ -~\n]", text), path)
            lines = text.split("\n")
            self.assertLessEqual(len(lines), 401, path)
            self.assertLessEqual(max(map(len, lines)), 120, path)
            self.assertEqual(set(re.findall(r"\w+", text)) & WORDS, set(), path)
            self.assertIsNone(re.search("dataclass|overload|contextmanager", text), path)

    def test_no_two_files_draw_from_one_another(self):
        drawn = {path.stem: [node.module.split(".")[-1] for node in tree_of(path).body
                             if isinstance(node, ast.ImportFrom)] for path in FILES}
        done = []
        while len(done) < len(drawn):
            free = [stem for stem in drawn if stem not in done and all(other in done for other in drawn[stem])]
            self.assertTrue(free, f"a ring of imports among {sorted(set(drawn) - set(done))}")
            done += free

    def test_imports_are_drawn_from_the_file_that_defines_the_name(self):
        for path in FILES:
            for node in tree_of(path).body:
                if isinstance(node, ast.ImportFrom):
                    self.assertEqual(node.level, 0, path)
                    self.assertRegex(node.module, r"\Apolyring\.[a-z_]+\Z", path)
                    defined = list(top_names(tree_of(PACKAGE / (node.module.split(".")[1] + ".py"))))
                    for alias in node.names:
                        self.assertIn(alias.name, defined, path)


class Code(unittest.TestCase):
    def each_node(self, *kinds):
        for path in FILES:
            for node in ast.walk(tree_of(path)):
                if isinstance(node, kinds):
                    yield node, f"{path.name}, line {getattr(node, 'lineno', '?')}: {ast.dump(node)[:200]}"

    def test_the_top_of_a_module(self):
        for path in FILES:
            tree = tree_of(path)
            self.assertIsNotNone(ast.get_docstring(tree), path)
            for node in tree.body[1:]:
                self.assertIsInstance(node, (ast.ImportFrom, ast.FunctionDef, ast.ClassDef, ast.Assign), path)
                if isinstance(node, ast.Assign):
                    self.assertTrue(is_plain_value(node.value), (path, node.lineno))
            bound = list(top_names(tree)) + imported_names(tree)
            self.assertEqual(len(bound), len(set(bound)), path)

    def test_statements(self):
        for node, told in self.each_node(ast.stmt):
            self.assertIsInstance(node, STATEMENTS, told)
            if isinstance(node, ast.Expr) and not isinstance(node.parent, ast.Module):
                self.assertIsInstance(node.value, ast.Call, told)
            if isinstance(node, (ast.While, ast.For)):
                self.assertEqual(node.orelse, [], told)
            if isinstance(node, ast.Assign):
                self.assertEqual(len(node.targets), 1, told)
            if isinstance(node, ast.Try):
                self.assertEqual(node.finalbody, [], told)
            if isinstance(node, ast.ImportFrom):
                self.assertIsInstance(node.parent, ast.Module, told)

    def test_functions(self):
        for node, told in self.each_node(ast.FunctionDef):
            self.assertLessEqual(node.end_lineno - node.lineno + 1, 40, told)
            self.assertEqual(node.decorator_list, [], told)
            self.assertIsNone(node.returns, told)
        for node, told in self.each_node(ast.arguments):
            self.assertEqual((node.vararg, node.kwarg, node.kwonlyargs, node.posonlyargs), (None, None, [], []), told)
            self.assertTrue(all(argument.annotation is None for argument in node.args), told)

    def test_classes(self):
        for node, told in self.each_node(ast.ClassDef):
            self.assertIsInstance(node.parent, ast.Module, told)
            self.assertEqual((node.decorator_list, node.keywords), ([], []), told)
            self.assertLessEqual(len(node.bases), 1, told)
            self.assertTrue(all(isinstance(part, (ast.FunctionDef, ast.Pass)) for part in node.body), told)

    def test_expressions(self):
        for node, told in self.each_node(ast.expr):
            self.assertIsInstance(node, EXPRESSIONS, told)
            if isinstance(node, ast.Constant):
                self.assertIsInstance(node.value, (int, str, bool, type(None)), told)
                self.assertNotIn("%", str(node.value) if isinstance(node.value, str) else "", told)
            if isinstance(node, ast.ListComp):
                self.assertEqual(len(node.generators), 1, told)
                self.assertLessEqual(len(node.generators[0].ifs), 1, told)
            if isinstance(node, ast.FormattedValue):
                self.assertIsInstance(node.value, ast.Name, told)
                self.assertIsNone(node.format_spec, told)
            if isinstance(node, ast.Compare) and any(isinstance(sign, (ast.Is, ast.IsNot)) for sign in node.ops):
                sides = [node.left] + node.comparators
                self.assertTrue(any(isinstance(side, ast.Constant) and side.value in (None, True, False)
                                    for side in sides), told)

    def test_signs_of_reckoning(self):
        for node, told in self.each_node(ast.BinOp, ast.AugAssign):
            self.assertNotIsInstance(node.op, (ast.Div, ast.MatMult), told)
            if isinstance(node.op, ast.Pow):
                exponent = node.right if isinstance(node, ast.BinOp) else node.value
                self.assertIsInstance(exponent, ast.Constant, told)
                self.assertTrue(0 <= exponent.value <= 64, told)

    def test_names(self):
        for path in FILES:
            tree = tree_of(path)
            bound = list(names_bound(tree))
            known = set(bound) | set(imported_names(tree)) | CALLED | PYTHONS_ERRORS
            for name in bound + [node.attr for node in ast.walk(tree) if isinstance(node, ast.Attribute)]:
                self.assertRegex(name, r"\A[A-Za-z][A-Za-z0-9_]*\Z|\A__(init|eq|repr|str|len)__\Z", path)
                self.assertNotIn(name, NOT_NAMES, path)
            for node in ast.walk(tree):
                if isinstance(node, ast.Name) and isinstance(node.ctx, ast.Load):
                    self.assertIn(node.id, known, (path, node.lineno))
            self.assertEqual(set(bound) & set(dir(builtins)), set(), path)
            classes = [node.name for node in tree.body if isinstance(node, ast.ClassDef)]
            tops = list(top_names(tree))
            for name in imported_names(tree) + classes:
                self.assertEqual(bound.count(name), tops.count(name), (path, name))

    def test_calls(self):
        own = [node.name for node, told in self.each_node(ast.FunctionDef) if isinstance(node.parent, ast.ClassDef)]
        for node, told in self.each_node(ast.Call):
            if isinstance(node.func, ast.Attribute):
                self.assertIn(node.func.attr, METHODS | set(own), told)
                self.assertEqual(node.keywords, [], told)
            elif isinstance(node.func, ast.Name):
                for keyword in node.keywords:
                    self.assertIn(keyword.arg, KEYWORDS.get(node.func.id, []), told)
                if node.func.id in WALKED_AT_ONCE:
                    self.assertTrue(is_walked_on_the_spot(node), told)

    def test_handlers(self):
        for node, told in self.each_node(ast.ExceptHandler):
            self.assertIsNotNone(node.type, told)
            names = [part.id for part in ast.walk(node.type) if isinstance(part, ast.Name)]
            self.assertEqual(set(names) & set(["Exception", "TypeError"]), set(), told)
        for node, told in self.each_node(ast.Raise):
            self.assertIsInstance(node.exc, ast.Call, told)

    def test_python_s_own_are_called_not_kept(self):
        for node, told in self.each_node(ast.Name):
            if node.id in CALLED:
                parent = node.parent
                called = isinstance(parent, ast.Call) and (parent.func is node or in_isinstance(node))
                kinds = isinstance(parent, ast.Tuple) and in_isinstance(parent)
                self.assertTrue(called or kinds or isinstance(parent, ast.keyword), told)


def in_isinstance(node):
    call = node.parent
    return (isinstance(call, ast.Call) and isinstance(call.func, ast.Name) and call.func.id == "isinstance"
            and node in call.args[1:])


if __name__ == "__main__":
    unittest.main()
