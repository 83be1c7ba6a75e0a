"""The form of the package's code: what of the rules L1 to L28 a look at the files can tell."""

import ast
import builtins
import re
import unittest
from pathlib import Path

PACKAGE = Path(__file__).resolve().parent.parent / "polyring"
FILES = sorted(PACKAGE.rglob("*.py"))

CALLED = set("""len range enumerate zip min max sum abs sorted reversed int str bool list tuple dict set frozenset
    isinstance ord repr any all divmod""".split())
PYTHONS_ERRORS = set("""Exception ValueError TypeError KeyError IndexError LookupError ZeroDivisionError ArithmeticError
    OverflowError RuntimeError NotImplementedError AttributeError StopIteration""".split())
METHODS = set("""append clear copy count endswith extend find get index insert isalnum isalpha isdigit islower isspace
    isupper items join keys ljust lower lstrip partition pop remove replace reverse rfind rjust rpartition rsplit rstrip
    setdefault split splitlines startswith strip update upper values zfill bit_length""".split())
WORDS = set("""type typing typing_extensions enum Enum IntEnum StrEnum Flag IntFlag Generic Protocol ABC ABCMeta namedtuple
    NamedTuple TypedDict TYPE_CHECKING abstractmethod""".split())
NOT_NAMES = set("""register mro elements open input version_info with_traceback add_note attrgetter breakpoint builtins
    compile copyright credits delattr dir eval exec exit gc getattr globals hasattr help id importlib license locals
    methodcaller os quit setattr super vars sys print chr format format_map""".split())
FILE_NAMES_OUT = set(["test", "tests", "testing", "site", "conftest", "sitecustomize", "usercustomize"])
KEYWORDS = {"sorted": ["key", "reverse"], "min": ["key", "default"], "max": ["key", "default"], "sum": ["start"],
            "enumerate": ["start"], "zip": ["strict"]}
STATEMENTS = (ast.Assign, ast.AugAssign, ast.If, ast.While, ast.For, ast.Return, ast.Break, ast.Continue, ast.Pass,
              ast.Raise, ast.Try, ast.Expr, ast.FunctionDef, ast.ClassDef, ast.ImportFrom)
EXPRESSIONS = (ast.BoolOp, ast.BinOp, ast.UnaryOp, ast.Lambda, ast.IfExp, ast.Dict, ast.ListComp, ast.Compare, ast.Call,
               ast.JoinedStr, ast.FormattedValue, ast.Constant, ast.Attribute, ast.Subscript, ast.Name, ast.List,
               ast.Tuple, ast.Slice)
WALKED_AT_ONCE = ("zip", "enumerate", "reversed", "range")
VIEWS = ("items", "keys", "values")
WALKERS = ("list", "tuple", "dict", "sorted", "sum", "any", "all", "enumerate", "zip")
CHANGERS = ("append", "clear", "extend", "insert", "pop", "remove", "reverse", "setdefault", "update")
VALUES_OUT = set("""items keys values pop update append clear extend insert remove reverse setdefault sort args encode
    format""".split())
VALUES_IN = set("count index title find get join lower upper split strip copy add".split())
PYTHONS_KINDS = (str, int, list, dict, set, bytes, tuple)


def tree_of(path):
    tree = ast.parse(path.read_text(encoding="ascii"))
    for node in ast.walk(tree):
        for child in ast.iter_child_nodes(node):
            child.parent = node
    return tree


def names_bound(tree):
    """All names that a file gives a value: of defs, parameters, locals, loops."""
    for node in ast.walk(tree):
        if isinstance(node, (ast.FunctionDef, ast.ClassDef)):
            yield node.name
        elif isinstance(node, ast.arg):
            yield node.arg
        elif isinstance(node, ast.Name) and isinstance(node.ctx, ast.Store):
            yield node.id
        elif isinstance(node, ast.ExceptHandler) and node.name:
            yield node.name


def top_names(tree):
    for node in tree.body:
        if isinstance(node, (ast.FunctionDef, ast.ClassDef)):
            yield node.name
        elif isinstance(node, ast.Assign):
            yield node.targets[0].id


def imported_names(tree):
    return [alias.asname or alias.name for node in tree.body if isinstance(node, ast.ImportFrom)
            for alias in node.names]


def is_plain_value(node):
    if isinstance(node, (ast.List, ast.Tuple)):
        return all(is_plain_value(part) for part in node.elts)
    if isinstance(node, ast.Dict):
        return all(is_plain_value(part) for part in node.keys + node.values)
    if isinstance(node, ast.UnaryOp):
        return isinstance(node.op, ast.USub) and is_plain_value(node.operand)
    return isinstance(node, (ast.Constant, ast.Name))


def is_walked_on_the_spot(node):
    parent = node.parent
    if isinstance(parent, (ast.For, ast.comprehension)):
        return parent.iter is node
    if not isinstance(parent, ast.Call):
        return False
    if isinstance(parent.func, ast.Name):
        first = parent.args[:1] == [node] and parent.func.id in WALKERS
        return first or (parent.func.id in ("min", "max") and parent.args == [node])
    return isinstance(parent.func, ast.Attribute) and parent.func.attr == "join" and is_text(parent.func.value)


def is_text(node):
    return isinstance(node, ast.Constant) and isinstance(node.value, str)


def is_called(node, names):
    return isinstance(node, ast.Call) and isinstance(node.func, ast.Name) and node.func.id in names


def walked_things(walked):
    """What a loop over this walks: itself, or what it walks through."""
    if is_called(walked, ("enumerate", "zip", "reversed")):
        return [thing for argument in walked.args for thing in walked_things(argument)]
    if isinstance(walked, ast.Call) and isinstance(walked.func, ast.Attribute) and walked.func.attr in VIEWS:
        return [ast.dump(walked.func.value)]
    return [ast.dump(walked)] if isinstance(walked, (ast.Name, ast.Attribute, ast.Subscript)) else []


def changed_things(nodes):
    """What is changed in place, by an index or by a method, as it stands there."""
    for node in nodes:
        for part in ast.walk(node):
            if isinstance(part, ast.Subscript) and isinstance(part.ctx, ast.Store):
                yield ast.dump(part.value)
            if isinstance(part, ast.Call) and isinstance(part.func, ast.Attribute) and part.func.attr in CHANGERS:
                yield ast.dump(part.func.value)


class Files(unittest.TestCase):
    def test_only_modules_lie_in_the_package(self):
        self.assertTrue((PACKAGE / "__init__.py").is_file())
        for path in PACKAGE.rglob("*"):
            if "__pycache__" not in path.parts:
                self.assertIn(path, FILES)
                self.assertRegex(path.name, r"\A([a-z][a-z0-9_]*|__init__|__main__)\.py\Z")
                self.assertNotIn(path.stem, FILE_NAMES_OUT | WORDS | set(dir(builtins)))
                self.assertFalse(path.stem.startswith("test_"))

    def test_signs_words_and_sizes(self):
        for path in FILES:
            text = path.read_bytes().decode("ascii")
            self.assertIsNone(re.search(r"[^ -~\n]", text), path)
            lines = text.split("\n")
            self.assertLessEqual(len(lines), 401, path)
            self.assertLessEqual(max(map(len, lines)), 120, path)
            self.assertEqual(set(re.findall(r"\w+", text)) & WORDS, set(), path)
            self.assertIsNone(re.search("dataclass|overload|contextmanager", text), path)

    def test_no_two_files_draw_from_one_another(self):
        drawn = {path.stem: [node.module.split(".")[-1] for node in tree_of(path).body
                             if isinstance(node, ast.ImportFrom)] for path in FILES}
        done = []
        while len(done) < len(drawn):
            free = [stem for stem in drawn if stem not in done and all(other in done for other in drawn[stem])]
            self.assertTrue(free, f"a ring of imports among {sorted(set(drawn) - set(done))}")
            done += free

    def test_imports_are_drawn_from_the_file_that_defines_the_name(self):
        for path in FILES:
            for node in tree_of(path).body:
                if isinstance(node, ast.ImportFrom):
                    self.assertEqual(node.level, 0, path)
                    self.assertRegex(node.module, r"\Apolyring\.[a-z_]+\Z", path)
                    defined = list(top_names(tree_of(PACKAGE / (node.module.split(".")[1] + ".py"))))
                    for alias in node.names:
                        self.assertIn(alias.name, defined, path)


class Code(unittest.TestCase):
    def each_node(self, *kinds):
        for path in FILES:
            for node in ast.walk(tree_of(path)):
                if isinstance(node, kinds):
                    yield node, f"{path.name}, line {getattr(node, 'lineno', '?')}: {ast.dump(node)[:200]}"

    def test_the_top_of_a_module(self):
        for path in FILES:
            tree = tree_of(path)
            self.assertIsNotNone(ast.get_docstring(tree), path)
            for node in tree.body[1:]:
                self.assertIsInstance(node, (ast.ImportFrom, ast.FunctionDef, ast.ClassDef, ast.Assign), path)
                if isinstance(node, ast.Assign):
                    self.assertTrue(is_plain_value(node.value), (path, node.lineno))
            bound = list(top_names(tree)) + imported_names(tree)
            self.assertEqual(len(bound), len(set(bound)), path)

    def test_statements(self):
        for node, told in self.each_node(ast.stmt):
            self.assertIsInstance(node, STATEMENTS, told)
            if isinstance(node, ast.Expr) and not isinstance(node.parent, ast.Module):
                self.assertIsInstance(node.value, ast.Call, told)
            if isinstance(node, (ast.While, ast.For)):
                self.assertEqual(node.orelse, [], told)
            if isinstance(node, ast.Assign):
                self.assertEqual(len(node.targets), 1, told)
            if isinstance(node, ast.Try):
                self.assertEqual(node.finalbody, [], told)
            if isinstance(node, ast.ImportFrom):
                self.assertIsInstance(node.parent, ast.Module, told)

    def test_functions(self):
        for node, told in self.each_node(ast.FunctionDef):
            self.assertLessEqual(node.end_lineno - node.lineno + 1, 40, told)
            self.assertEqual(node.decorator_list, [], told)
            self.assertIsNone(node.returns, told)
        for node, told in self.each_node(ast.arguments):
            self.assertEqual((node.vararg, node.kwarg, node.kwonlyargs, node.posonlyargs), (None, None, [], []), told)
            self.assertTrue(all(argument.annotation is None for argument in node.args), told)

    def test_classes(self):
        for node, told in self.each_node(ast.ClassDef):
            self.assertIsInstance(node.parent, ast.Module, told)
            self.assertEqual((node.decorator_list, node.keywords), ([], []), told)
            self.assertLessEqual(len(node.bases), 1, told)
            self.assertTrue(all(isinstance(part, (ast.FunctionDef, ast.Pass)) for part in node.body), told)

    def test_expressions(self):
        for node, told in self.each_node(ast.expr):
            self.assertIsInstance(node, EXPRESSIONS, told)
            if isinstance(node, ast.Constant):
                self.assertIsInstance(node.value, (int, str, bool, type(None)), told)
                self.assertNotIn("%", str(node.value) if isinstance(node.value, str) else "", told)
            if isinstance(node, ast.ListComp):
                self.assertEqual(len(node.generators), 1, told)
                self.assertLessEqual(len(node.generators[0].ifs), 1, told)
            if isinstance(node, ast.FormattedValue):
                self.assertIsInstance(node.value, ast.Name, told)
                self.assertIsNone(node.format_spec, told)
            if isinstance(node, ast.Compare) and any(isinstance(sign, (ast.Is, ast.IsNot)) for sign in node.ops):
                sides = [node.left] + node.comparators
                self.assertTrue(any(isinstance(side, ast.Constant) and side.value in (None, True, False)
                                    for side in sides), told)

    def test_signs_of_reckoning(self):
        for node, told in self.each_node(ast.BinOp, ast.AugAssign):
            self.assertNotIsInstance(node.op, (ast.Div, ast.MatMult), told)
            if isinstance(node.op, ast.Pow):
                exponent = node.right if isinstance(node, ast.BinOp) else node.value
                self.assertIsInstance(exponent, ast.Constant, told)
                self.assertTrue(0 <= exponent.value <= 64, told)

    def test_names(self):
        for path in FILES:
            tree = tree_of(path)
            bound = list(names_bound(tree))
            known = set(bound) | set(imported_names(tree)) | CALLED | PYTHONS_ERRORS
            for name in bound + [node.attr for node in ast.walk(tree) if isinstance(node, ast.Attribute)]:
                self.assertRegex(name, r"\A[A-Za-z][A-Za-z0-9_]*\Z|\A__(init|eq|repr|str|len)__\Z", path)
                self.assertNotIn(name, NOT_NAMES, path)
            for node in ast.walk(tree):
                if isinstance(node, ast.Name) and isinstance(node.ctx, ast.Load):
                    self.assertIn(node.id, known, (path, node.lineno))
            self.assertEqual(set(bound) & set(dir(builtins)), set(), path)
            classes = [node.name for node in tree.body if isinstance(node, ast.ClassDef)]
            tops = list(top_names(tree))
            for name in imported_names(tree) + classes:
                self.assertEqual(bound.count(name), tops.count(name), (path, name))

    def test_calls(self):
        own = [node.name for node, told in self.each_node(ast.FunctionDef) if isinstance(node.parent, ast.ClassDef)]
        for node, told in self.each_node(ast.Call):
            if isinstance(node.func, ast.Attribute):
                self.assertIn(node.func.attr, METHODS | set(own), told)
                self.assertEqual(node.keywords, [], told)
            elif isinstance(node.func, ast.Name):
                for keyword in node.keywords:
                    self.assertIn(keyword.arg, KEYWORDS.get(node.func.id, []), told)
                    if keyword.arg in ("reverse", "strict"):
                        self.assertIsInstance(keyword.value, ast.Constant, told)
                if node.func.id in WALKED_AT_ONCE:
                    self.assertTrue(is_walked_on_the_spot(node), told)
            if isinstance(node.func, ast.Attribute) and node.func.attr in VIEWS:
                self.assertTrue(is_walked_on_the_spot(node), told)

    def test_no_loop_changes_what_it_walks(self):
        for node, told in self.each_node(ast.For):
            self.assertEqual(set(walked_things(node.iter)) & set(changed_things(node.body)), set(), told)

    def test_lists_of_a_file_s_top_are_only_read(self):
        for path in FILES:
            tree = tree_of(path)
            tops = [node for node in tree.body if isinstance(node, ast.Assign)
                    and isinstance(node.value, (ast.List, ast.Dict))]
            for top in tops:
                inner = [part for part in ast.walk(top.value) if part is not top.value]
                self.assertFalse([part for part in inner if isinstance(part, (ast.List, ast.Dict))], path)
                name = ast.dump(ast.Name(top.targets[0].id, ast.Load()))
                self.assertNotIn(name, list(changed_things(tree.body)), path)

    def test_two_lambdas_of_one_form_stand_apart(self):
        seen = []
        for node, told in self.each_node(ast.Lambda):
            seen.append((told.partition(":")[0], [argument.arg for argument in node.args.args]))
        for one in seen:
            self.assertEqual(seen.count(one), 1, one)

    def test_methods_and_values_of_objects(self):
        methods = {node.name for node, told in self.each_node(ast.FunctionDef) if isinstance(node.parent, ast.ClassDef)}
        values = {node.attr for node, told in self.each_node(ast.Attribute) if isinstance(node.ctx, ast.Store)}
        own = {name for kind in PYTHONS_KINDS for name in dir(kind)}
        self.assertEqual(methods & values, set())
        self.assertEqual(methods & own - {"__init__"}, set())
        self.assertEqual(values & VALUES_OUT, set())
        self.assertEqual(values & own - VALUES_IN, set())
        read = {node.attr for node, told in self.each_node(ast.Attribute) if isinstance(node.ctx, ast.Load)}
        self.assertEqual(read - methods - values - METHODS, set())

    def test_methods_are_called_where_they_stand(self):
        methods = {node.name for node, told in self.each_node(ast.FunctionDef) if isinstance(node.parent, ast.ClassDef)}
        for node, told in self.each_node(ast.Attribute):
            if node.attr in methods | METHODS:
                called = isinstance(node.parent, ast.Call) and node.parent.func is node
                self.assertTrue(called or (isinstance(node.parent, ast.keyword) and node.parent.arg == "key"), told)

    def test_texts(self):
        for node, told in self.each_node(ast.Constant):
            if isinstance(node.value, str):
                self.assertIsNone(re.search(r"[^ -~\n\t]", node.value), told)
            elif isinstance(node.value, int):
                self.assertLess(len(str(node.value)), 900, told)

    def test_classes_are_called_or_named(self):
        classes = {node.name for node, told in self.each_node(ast.ClassDef)}
        for node, told in self.each_node(ast.Name):
            if node.id in classes:
                parent = node.parent
                called = isinstance(parent, ast.Call) and parent.func is node
                self.assertTrue(called or in_isinstance(node) or isinstance(parent, (ast.ClassDef, ast.ExceptHandler))
                                or (isinstance(parent, ast.Tuple) and isinstance(parent.parent, ast.ExceptHandler)), told)

    def test_handlers(self):
        for node, told in self.each_node(ast.ExceptHandler):
            self.assertIsNotNone(node.type, told)
            names = [part.id for part in ast.walk(node.type) if isinstance(part, ast.Name)]
            own = [kind.name for kind, where in self.each_node(ast.ClassDef)]
            self.assertEqual(set(names) - set(own) - set(["KeyError", "ZeroDivisionError", "StopIteration"]), set(), told)
        for node, told in self.each_node(ast.Raise):
            self.assertIsInstance(node.exc, ast.Call, told)

    def test_python_s_own_are_called_not_kept(self):
        for node, told in self.each_node(ast.Name):
            if node.id in CALLED:
                parent = node.parent
                called = isinstance(parent, ast.Call) and (parent.func is node or in_isinstance(node))
                kinds = isinstance(parent, ast.Tuple) and in_isinstance(parent)
                self.assertTrue(called or kinds or isinstance(parent, ast.keyword), told)


def in_isinstance(node):
    call = node.parent
    return (isinstance(call, ast.Call) and isinstance(call.func, ast.Name) and call.func.id == "isinstance"
            and node in call.args[1:])


if __name__ == "__main__":
    unittest.main()
