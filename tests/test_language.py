"""Looks at the package's own files by those rules of the language that can be seen in the text."""

import ast
import builtins
import pathlib
import re
import unittest

PACKAGE = pathlib.Path(__file__).resolve().parent.parent / "halforder"

ALLOWED_BUILTINS = set(
    "len range enumerate zip min max sum abs sorted reversed int str bool list tuple dict set frozenset isinstance "
    "ord repr any all divmod Exception ValueError TypeError KeyError IndexError LookupError ZeroDivisionError "
    "ArithmeticError OverflowError RuntimeError NotImplementedError StopIteration".split()
)
ALLOWED_METHODS = set(
    "append clear copy count endswith extend find get index insert isalnum isalpha isdigit islower isspace isupper "
    "items join keys ljust lower lstrip partition pop remove replace reverse rfind rjust rpartition rsplit rstrip "
    "setdefault split splitlines startswith strip update upper values zfill bit_length __init__".split()
)
ALLOWED_DUNDERS = {"__init__", "__eq__", "__repr__", "__str__", "__len__"}
STATEMENTS = (
    ast.FunctionDef, ast.ClassDef, ast.Return, ast.Assign, ast.AugAssign, ast.For, ast.While, ast.If, ast.Raise,
    ast.Try, ast.ImportFrom, ast.Expr, ast.Pass, ast.Break, ast.Continue,
)
EXPRESSIONS = (
    ast.BoolOp, ast.BinOp, ast.UnaryOp, ast.Lambda, ast.IfExp, ast.Dict, ast.ListComp, ast.Compare, ast.Call,
    ast.FormattedValue, ast.JoinedStr, ast.Constant, ast.Attribute, ast.Subscript, ast.Name, ast.List, ast.Tuple,
    ast.Slice,
)
FORBIDDEN_WORDS = re.compile(
    r"\b(type|typing|typing_extensions|enum|Enum|IntEnum|StrEnum|Flag|IntFlag|Generic|Protocol|ABC|ABCMeta|namedtuple"
    r"|NamedTuple|TypedDict|TYPE_CHECKING|abstractmethod)\b|dataclass|overload|contextmanager"
)
FORBIDDEN_NAMES = set(
    "register mro elements open input version_info with_traceback add_note attrgetter breakpoint builtins compile "
    "copyright credits delattr dir eval exec exit gc getattr globals hasattr help id importlib license locals "
    "methodcaller os quit setattr super vars sys chr".split()
)
KEYWORDS = {
    "sorted": ("key", "reverse"), "min": ("key", "default"), "max": ("key", "default"), "sum": ("start",),
    "enumerate": ("start",), "zip": ("strict",),
}
PLAIN_WORD = re.compile(r"[A-Za-z][A-Za-z0-9_]*\Z")


def files():
    return sorted(path for path in PACKAGE.iterdir() if path.name != "__pycache__")


def trees():
    return [(path.stem, ast.parse(path.read_text())) for path in files()]


def nodes():
    for stem, tree in trees():
        for node in ast.walk(tree):
            yield f"{stem}:{getattr(node, 'lineno', 0)}", node


def top_names(tree):
    found = []
    for node in tree.body:
        if isinstance(node, (ast.FunctionDef, ast.ClassDef)):
            found.append(node.name)
        elif isinstance(node, ast.Assign):
            found.append(node.targets[0].id)
    return found


def draws():
    """For each file the files that it draws from."""
    found = {}
    for stem, tree in trees():
        rows = [node for node in tree.body if isinstance(node, ast.ImportFrom)]
        found[stem] = sorted({row.module.partition(".")[2] for row in rows})
    return found


def is_docstring(node):
    return isinstance(node, ast.Expr) and isinstance(node.value, ast.Constant) and isinstance(node.value.value, str)


class TestFiles(unittest.TestCase):
    def test_names_of_files(self):
        for path in files():
            self.assertTrue(path.is_file() and path.suffix == ".py", path)
            self.assertTrue(path.name == "__init__.py" or re.match(r"[a-z][a-z0-9_]*\.py\Z", path.name), path)
            self.assertFalse(path.stem in dir(builtins) or FORBIDDEN_WORDS.search(path.stem), path)

    def test_signs_and_sizes(self):
        for path in files():
            rows = path.read_bytes().decode("ascii").split("\n")
            self.assertLessEqual(len(rows), 400, path)
            for number, row in enumerate(rows, start=1):
                self.assertTrue(all(" " <= sign <= "~" for sign in row), (path, number))
                self.assertLessEqual(len(row), 120, (path, number))
                self.assertIsNone(FORBIDDEN_WORDS.search(row), (path, number))

    def test_functions_are_short(self):
        for place, node in nodes():
            if isinstance(node, ast.FunctionDef):
                self.assertLessEqual(node.end_lineno - node.lineno + 1, 40, place)


class TestTops(unittest.TestCase):
    def test_what_stands_at_the_top(self):
        for stem, tree in trees():
            self.assertTrue(is_docstring(tree.body[0]), stem)
            for node in tree.body[1:]:
                allowed = (ast.ImportFrom, ast.FunctionDef, ast.ClassDef, ast.Assign)
                self.assertIsInstance(node, allowed, (stem, node.lineno))

    def test_each_name_is_bound_once(self):
        for stem, tree in trees():
            names = top_names(tree)
            self.assertEqual(len(names), len(set(names)), stem)

    def test_imports_are_of_the_file_that_defines_the_name(self):
        defined = {stem: top_names(tree) for stem, tree in trees()}
        for stem, tree in trees():
            for node in ast.walk(tree):
                if isinstance(node, ast.ImportFrom):
                    self.assertEqual(node.level, 0, stem)
                    self.assertIn(node, tree.body, stem)
                    package, dot, module = node.module.partition(".")
                    self.assertEqual(package, "halforder", stem)
                    for alias in node.names:
                        self.assertIn(alias.name, defined[module], stem)
                        self.assertIsNone(alias.asname, stem)

    def test_no_two_files_draw_from_one_another(self):
        left = draws()
        while left:
            free = [stem for stem in left if not set(left[stem]) & set(left)]
            self.assertTrue(free, left)
            left = {stem: left[stem] for stem in left if stem not in free}

    def test_checkers_draw_from_nothing_that_lists_counts_or_searches(self):
        drawn = draws()
        checkers = [stem for stem in drawn if stem.endswith("checker")]
        self.assertIn("countchecker", checkers)
        for stem in checkers:
            seen, waiting = set(), [stem]
            while waiting:
                here = waiting.pop()
                seen.add(here)
                waiting += [other for other in drawn[here] if other not in seen]
            self.assertLessEqual(seen - set(checkers), {"closures", "errors", "halves", "kinds", "names", "reaches"})


class TestForms(unittest.TestCase):
    def test_statements_and_expressions(self):
        for place, node in nodes():
            if isinstance(node, ast.stmt):
                self.assertIsInstance(node, STATEMENTS, place)
            if isinstance(node, ast.expr):
                self.assertIsInstance(node, EXPRESSIONS + (ast.Set,), place)

    def test_expressions_by_themselves_are_calls(self):
        for stem, tree in trees():
            for node in ast.walk(tree):
                if isinstance(node, ast.Expr) and node not in tree.body[:1]:
                    self.assertIsInstance(node.value, ast.Call, (stem, node.lineno))

    def test_functions_and_classes_are_plain(self):
        for place, node in nodes():
            if isinstance(node, ast.arguments):
                self.assertFalse(node.vararg or node.kwarg or node.kwonlyargs or node.posonlyargs, place)
            if isinstance(node, (ast.FunctionDef, ast.ClassDef)):
                self.assertEqual(node.decorator_list, [], place)
            if isinstance(node, ast.ClassDef):
                self.assertLessEqual(len(node.bases), 1, place)
                self.assertEqual(node.keywords, [], place)
                for part in node.body:
                    self.assertIsInstance(part, (ast.FunctionDef, ast.Pass), place)

    def test_loops_assignments_and_tries(self):
        for place, node in nodes():
            if isinstance(node, ast.Assign):
                self.assertEqual(len(node.targets), 1, place)
            if isinstance(node, (ast.For, ast.While)):
                self.assertEqual(node.orelse, [], place)
            if isinstance(node, ast.Try):
                self.assertEqual(node.finalbody, [], place)
                self.assertTrue(all(handler.type is not None for handler in node.handlers), place)
            if isinstance(node, ast.ListComp):
                self.assertEqual(len(node.generators), 1, place)
                self.assertLessEqual(len(node.generators[0].ifs), 1, place)

    def test_operators(self):
        for place, node in nodes():
            self.assertNotIsInstance(node, (ast.Div, ast.MatMult), place)
            if isinstance(node, ast.Compare):
                for operator, side in zip(node.ops, node.comparators):
                    if isinstance(operator, (ast.Is, ast.IsNot)):
                        self.assertIn(getattr(side, "value", 0), (None, True, False), place)

    def test_constants(self):
        for place, node in nodes():
            if isinstance(node, ast.Constant):
                self.assertIsInstance(node.value, (int, str, bool, type(None)), place)
                if isinstance(node.value, str):
                    self.assertNotIn("%", node.value, place)


    def test_powers_have_a_written_exponent(self):
        for place, node in nodes():
            if isinstance(node, ast.BinOp) and isinstance(node.op, ast.Pow):
                self.assertIn(getattr(node.right, "value", None), range(65), place)

    def test_keywords(self):
        for place, node in nodes():
            if isinstance(node, ast.Call):
                allowed = KEYWORDS.get(getattr(node.func, "id", ""), ())
                for keyword in node.keywords:
                    self.assertIn(keyword.arg, allowed, place)

    def test_walks_are_walked_on_the_spot(self):
        for stem, tree in trees():
            parents = {child: node for node in ast.walk(tree) for child in ast.iter_child_nodes(node)}
            for node in ast.walk(tree):
                if isinstance(node, ast.Call) and self.is_walk(node.func):
                    self.assertTrue(self.walks(parents[node], node), (stem, node.lineno))

    def is_walk(self, function):
        if isinstance(function, ast.Name):
            return function.id in ("zip", "enumerate", "reversed", "range")
        return function.attr in ("items", "keys", "values")

    def walks(self, around, node):
        if isinstance(around, (ast.For, ast.comprehension)):
            return around.iter == node
        if not isinstance(around, ast.Call) or around.args[:1] != [node]:
            return False
        if isinstance(around.func, ast.Attribute):
            return around.func.attr == "join" and isinstance(around.func.value, ast.Constant)
        if around.func.id in ("min", "max"):
            return len(around.args) == 1
        return around.func.id in ("list", "tuple", "dict", "sorted", "sum", "any", "all", "enumerate", "zip")


class TestNames(unittest.TestCase):
    def test_names_are_plain_words(self):
        for place, node in nodes():
            for name in self.names_of(node):
                self.assertTrue(PLAIN_WORD.match(name) or name in ALLOWED_DUNDERS, (place, name))
                self.assertNotIn(name, FORBIDDEN_NAMES, place)

    def names_of(self, node):
        if isinstance(node, ast.Name):
            return [node.id]
        if isinstance(node, ast.Attribute):
            return [node.attr]
        if isinstance(node, (ast.FunctionDef, ast.ClassDef)):
            return [node.name]
        if isinstance(node, ast.arg):
            return [node.arg]
        return []

    def test_names_of_pythons_own(self):
        own = set(dir(builtins))
        for place, node in nodes():
            if isinstance(node, ast.Name) and node.id in own:
                self.assertIn(node.id, ALLOWED_BUILTINS, place)
                self.assertIsInstance(node.ctx, ast.Load, place)
            if isinstance(node, ast.arg):
                self.assertNotIn(node.arg, own, place)

    def test_locals_are_not_called_like_imports_classes_or_defs(self):
        for stem, tree in trees():
            taken = set(top_names(tree))
            for node in tree.body:
                if isinstance(node, ast.ImportFrom):
                    taken.update(alias.name for alias in node.names)
            for part in tree.body:
                if isinstance(part, (ast.FunctionDef, ast.ClassDef)):
                    for node in ast.walk(part):
                        bound = [node.arg] if isinstance(node, ast.arg) else []
                        if isinstance(node, ast.Name) and isinstance(node.ctx, ast.Store):
                            bound = [node.id]
                        self.assertFalse(taken & set(bound), (stem, bound))

    def test_methods(self):
        own = {
            part.name for stem, tree in trees() for node in tree.body if isinstance(node, ast.ClassDef)
            for part in node.body if isinstance(part, ast.FunctionDef)
        }
        for place, node in nodes():
            if isinstance(node, ast.Call) and isinstance(node.func, ast.Attribute):
                self.assertIn(node.func.attr, ALLOWED_METHODS | own, place)

    def test_no_name_is_a_method_here_and_a_value_there(self):
        methods, values = set(), set()
        for place, node in nodes():
            if isinstance(node, ast.ClassDef):
                methods |= {part.name for part in node.body if isinstance(part, ast.FunctionDef)}
            if isinstance(node, ast.Attribute) and isinstance(node.ctx, ast.Store):
                self.assertIsInstance(node.value, ast.Name, place)
                values.add(node.attr)
        self.assertEqual(methods & values, set())
        taken = set(dir("")) | set(dir(0)) | set(dir([])) | set(dir({})) | set(dir(set())) | set(dir(b""))
        allowed = set("count index title find get join lower upper split strip copy add".split())
        self.assertEqual((values - allowed) & taken, set())

    def test_sets_are_not_kept(self):
        for stem, tree in trees():
            parents = {child: node for node in ast.walk(tree) for child in ast.iter_child_nodes(node)}
            for node in ast.walk(tree):
                if isinstance(node, ast.Call) and getattr(node.func, "id", "") in ("set", "frozenset"):
                    around = parents[node]
                    within = isinstance(around, ast.Call) and getattr(around.func, "id", "") in ("sorted", "len")
                    beside = isinstance(around, (ast.Compare, ast.BinOp))
                    self.assertTrue(within or beside, (stem, node.lineno))


if __name__ == "__main__":
    unittest.main()
