"""The rules of LANGUAGE.md that a look at the package's files can check."""

import ast
import builtins
import pathlib
import re
import unittest

PACKAGE = pathlib.Path(__file__).resolve().parent.parent / "creasecourt"
FILES = sorted(PACKAGE.rglob("*.py"))

BARRED_WORDS = re.compile(
    r"\b(type|typing|typing_extensions|enum|Enum|IntEnum|StrEnum|Flag|IntFlag|Generic|Protocol"
    r"|ABC|ABCMeta|namedtuple|NamedTuple|TypedDict|TYPE_CHECKING|abstractmethod)\b"
    r"|dataclass|overload|contextmanager"
)
ALLOWED_NODES = (
    ast.Module, ast.Expr, ast.Constant, ast.ImportFrom, ast.alias, ast.FunctionDef, ast.arguments, ast.arg,
    ast.ClassDef, ast.Assign, ast.AugAssign, ast.If, ast.While, ast.For, ast.Return, ast.Break, ast.Continue,
    ast.Pass, ast.Raise, ast.Try, ast.ExceptHandler, ast.Name, ast.Load, ast.Store, ast.List, ast.Tuple, ast.Dict,
    ast.BinOp, ast.UnaryOp, ast.BoolOp, ast.Compare, ast.IfExp, ast.Call, ast.keyword, ast.Attribute,
    ast.Subscript, ast.Slice, ast.ListComp, ast.comprehension, ast.JoinedStr, ast.FormattedValue, ast.Lambda,
    ast.Add, ast.Sub, ast.Mult, ast.FloorDiv, ast.Mod, ast.USub, ast.Not, ast.And, ast.Or,
    ast.Eq, ast.NotEq, ast.Lt, ast.LtE, ast.Gt, ast.GtE, ast.Is, ast.IsNot, ast.In, ast.NotIn,
)
ALLOWED_NAMES = set(
    "len range enumerate zip min max sum abs sorted reversed int str bool list tuple dict set frozenset isinstance"
    " ord repr any all divmod Exception ValueError TypeError KeyError IndexError LookupError".split()
)
ALLOWED_METHODS = set(
    "append clear copy count endswith extend find get index insert isalnum isalpha isdigit islower isspace isupper"
    " items join keys ljust lower lstrip partition pop remove replace reverse rfind rjust rpartition rsplit rstrip"
    " setdefault split splitlines startswith strip update upper values zfill bit_length".split()
)
WALKED = {"zip", "enumerate", "reversed", "range", "items", "keys", "values"}
WALKERS = {"list", "tuple", "dict", "sorted", "sum", "any", "all", "enumerate", "zip", "min", "max"}
KEYWORDS = {"sorted": {"key", "reverse"}, "min": {"key", "default"}, "max": {"key", "default"},
            "sum": {"start"}, "enumerate": {"start"}, "zip": {"strict"}}


def tree_of(path):
    tree = ast.parse(path.read_text())
    for node in ast.walk(tree):
        for child in ast.iter_child_nodes(node):
            child.parent = node
    return tree


def top_names(tree):
    """The names that a file binds at its top, but for imports."""
    told = []
    for node in tree.body:
        if isinstance(node, (ast.FunctionDef, ast.ClassDef)):
            told.append(node.name)
        elif isinstance(node, ast.Assign):
            told.extend(target.id for target in node.targets)
    return told


def imported_names(tree):
    return [alias.name for node in tree.body if isinstance(node, ast.ImportFrom) for alias in node.names]


def bound_within(tree):
    """Parameters and names that are given a value inside of functions."""
    told = []
    for node in ast.walk(tree):
        if isinstance(node, ast.arg):
            told.append(node.arg)
        elif isinstance(node, ast.Name) and isinstance(node.ctx, ast.Store) and node.parent.__class__ is not ast.Module:
            if not (isinstance(node.parent, ast.Assign) and isinstance(node.parent.parent, ast.Module)):
                told.append(node.id)
        elif isinstance(node, ast.ExceptHandler) and node.name:
            told.append(node.name)
    return told


def called_name(node):
    if isinstance(node, ast.Call):
        if isinstance(node.func, ast.Name):
            return node.func.id
        if isinstance(node.func, ast.Attribute):
            return node.func.attr
    return None


class Language(unittest.TestCase):
    at = "the package"

    def nodes(self, *kinds):
        for path in FILES:
            for node in ast.walk(tree_of(path)):
                if isinstance(node, kinds):
                    self.at = f"{path.name}, row {getattr(node, 'lineno', 0)}"
                    yield node

    def _formatMessage(self, msg, standardMsg):
        return f"{self.at}: {super()._formatMessage(msg, standardMsg)}"

    def test_package_holds_python_files_alone(self):
        others = [
            path for path in PACKAGE.rglob("*")
            if path.is_file() and path.suffix not in (".py", ".pyc")
        ]
        self.assertEqual(others, [])
        self.assertIn(PACKAGE / "__init__.py", FILES)

    def test_signs_and_sizes(self):
        for path in FILES:
            with self.subTest(path=path.name):
                text = path.read_bytes().decode("ascii")
                self.assertTrue(all(sign == "\n" or " " <= sign <= "~" for sign in text))
                rows = text.split("\n")
                self.assertLessEqual(len(rows), 400)
                self.assertLessEqual(max(len(row) for row in rows), 120)
                self.assertIsNone(BARRED_WORDS.search(text))

    def test_forms(self):
        for node in self.nodes(ast.AST):
            self.assertIsInstance(node, ALLOWED_NODES)
            if isinstance(node, ast.Constant):
                self.assertIsInstance(node.value, (int, str, type(None)))
                self.assertNotIn("%", str(node.value))
            if isinstance(node, ast.FunctionDef):
                self.assertLessEqual(node.end_lineno - node.lineno + 1, 40)
                self.assertEqual(node.decorator_list, [])
                self.assertIsNone(node.args.vararg or node.args.kwarg or node.returns)
                self.assertEqual(node.args.kwonlyargs + node.args.posonlyargs, [])
            if isinstance(node, ast.Assign):
                self.assertEqual(len(node.targets), 1)
                self.assertNotIsInstance(node.targets[0], (ast.Tuple, ast.List))
            if isinstance(node, (ast.For, ast.While)):
                self.assertEqual(node.orelse, [])
            if isinstance(node, ast.Try):
                self.assertEqual(node.finalbody, [])
            if isinstance(node, ast.ListComp):
                self.assertEqual(len(node.generators), 1)
                self.assertLessEqual(len(node.generators[0].ifs), 1)
            if isinstance(node, ast.FormattedValue):
                self.assertIsInstance(node.value, ast.Name)
                self.assertIsNone(node.format_spec)

    def test_tops_of_files(self):
        for path in FILES:
            tree = tree_of(path)
            names = top_names(tree) + imported_names(tree)
            with self.subTest(path=path.name):
                self.assertEqual(len(names), len(set(names)))
                self.assertIsInstance(tree.body[0], ast.Expr)
                for node in tree.body[1:]:
                    self.assertIsInstance(node, (ast.ImportFrom, ast.FunctionDef, ast.ClassDef, ast.Assign))

    def test_imports_are_drawn_from_the_file_that_defines_them_and_go_one_way(self):
        drawn = {}
        for path in FILES:
            drawn[path.stem] = []
            for node in tree_of(path).body:
                if isinstance(node, ast.ImportFrom):
                    package, module = node.module.split(".")
                    self.assertEqual((package, node.level), ("creasecourt", 0))
                    for alias in node.names:
                        self.assertIsNone(alias.asname)
                        self.assertIn(alias.name, top_names(tree_of(PACKAGE / f"{module}.py")))
                    drawn[path.stem].append(module)
        while drawn:
            free = [module for module in drawn if not set(drawn[module]) & set(drawn)]
            self.assertTrue(free, f"these draw from one another: {sorted(drawn)}")
            for module in free:
                del drawn[module]

    def test_no_name_is_imported_in_vain(self):
        for path in FILES:
            tree = tree_of(path)
            used = {node.id for node in ast.walk(tree) if isinstance(node, ast.Name)}
            self.assertEqual(set(imported_names(tree)) - used, set(), path.name)

    def test_names(self):
        for path in FILES:
            tree = tree_of(path)
            top = set(top_names(tree) + imported_names(tree))
            bound = set(bound_within(tree))
            with self.subTest(path=path.name):
                self.assertEqual(bound & (top | set(dir(builtins))), set())
                self.assertEqual(top & set(dir(builtins)), set())
                methods = {node.name for node in ast.walk(tree) if isinstance(node, ast.FunctionDef)}
                for name in top | bound | methods:
                    self.assertTrue(name == "__init__" or re.fullmatch("[A-Za-z][A-Za-z0-9_]*", name), name)
                    self.assertNotIn(name, ("open", "input", "register", "elements", "help", "vars", "id"))
                for node in ast.walk(tree):
                    if isinstance(node, ast.Name) and node.id not in top | bound:
                        self.assertIn(node.id, ALLOWED_NAMES)

    def own_names(self):
        methods = set()
        values = set()
        for node in self.nodes(ast.ClassDef):
            methods |= {part.name for part in node.body if isinstance(part, ast.FunctionDef)}
            values |= {
                part.attr for part in ast.walk(node)
                if isinstance(part, ast.Attribute) and isinstance(part.ctx, ast.Store)
            }
        return methods, values

    def test_methods_and_values(self):
        methods, values = self.own_names()
        self.assertEqual(methods & values, set())
        for node in self.nodes(ast.Attribute):
            if isinstance(node.parent, ast.Call) and node.parent.func is node:
                self.assertIn(node.attr, ALLOWED_METHODS | methods)
            else:
                self.assertIn(node.attr, values)

    def test_is_stands_beside_none_and_truths_alone(self):
        for node in self.nodes(ast.Compare):
            for sign, right in zip(node.ops, node.comparators):
                if isinstance(sign, (ast.Is, ast.IsNot)):
                    self.assertIsInstance(right, ast.Constant)
                    self.assertIn(right.value, (None, True, False))

    def test_keywords_at_pythons_own_names(self):
        for node in self.nodes(ast.Call):
            name = called_name(node)
            if name in ALLOWED_NAMES | ALLOWED_METHODS:
                self.assertLessEqual({keyword.arg for keyword in node.keywords}, KEYWORDS.get(name, set()))

    def test_what_is_walked_is_walked_on_the_spot(self):
        for node in self.nodes(ast.Call):
            if called_name(node) not in WALKED:
                continue
            above = node.parent
            if isinstance(above, (ast.For, ast.comprehension)):
                self.assertIs(above.iter, node)
            else:
                self.assertIn(called_name(above), WALKERS)

    def test_what_a_loop_walks_is_not_changed_in_it(self):
        changing = {"append", "clear", "extend", "insert", "pop", "remove", "reverse", "setdefault", "update"}
        for node in self.nodes(ast.For):
            walked = {part.id for part in ast.walk(node.iter) if isinstance(part, ast.Name)}
            if called_name(node.iter) not in WALKED and not isinstance(node.iter, ast.Name):
                continue
            for part in ast.walk(node):
                if called_name(part) in changing and isinstance(part.func, ast.Attribute):
                    if isinstance(part.func.value, ast.Name):
                        self.assertNotIn(part.func.value.id, walked)

    def test_sets_are_not_kept(self):
        for node in self.nodes(ast.Call):
            if called_name(node) in ("set", "frozenset"):
                above = node.parent
                while isinstance(above, ast.BinOp):
                    above = above.parent
                self.assertTrue(isinstance(above, ast.Compare) or called_name(above) in ("sorted", "len"))


if __name__ == "__main__":
    unittest.main()
