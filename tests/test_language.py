"""The rules of LANGUAGE.md that a plain look at the package's files can check."""

import ast
import pathlib
import re
import unittest

PACKAGE = pathlib.Path(__file__).resolve().parent.parent / "creasecourt"
FILES = sorted(PACKAGE.rglob("*.py"))

BARRED_NODES = (
    ast.With, ast.Match, ast.Delete, ast.Global, ast.Nonlocal, ast.Assert, ast.Yield,
    ast.YieldFrom, ast.AsyncFunctionDef, ast.Await, ast.NamedExpr, ast.Starred,
    ast.SetComp, ast.DictComp, ast.GeneratorExp, ast.Div, ast.Import,
)
BARRED_WORDS = re.compile(
    r"\b(type|typing|typing_extensions|enum|Enum|IntEnum|StrEnum|Flag|IntFlag|Generic|Protocol"
    r"|ABC|ABCMeta|namedtuple|NamedTuple|TypedDict|TYPE_CHECKING|abstractmethod)\b"
    r"|dataclass|overload|contextmanager"
)


def names_in(tree):
    for node in ast.walk(tree):
        if isinstance(node, ast.Name):
            yield node.id
        elif isinstance(node, ast.arg):
            yield node.arg
        elif isinstance(node, (ast.FunctionDef, ast.ClassDef)):
            yield node.name


class Language(unittest.TestCase):
    def test_package_holds_python_files_alone(self):
        others = [
            path for path in PACKAGE.rglob("*")
            if path.is_file() and path.suffix not in (".py", ".pyc")
        ]
        self.assertEqual(others, [])
        self.assertIn(PACKAGE / "__init__.py", FILES)

    def test_signs_and_sizes(self):
        for path in FILES:
            with self.subTest(path=path.name):
                text = path.read_bytes().decode("ascii")
                self.assertTrue(all(sign == "\n" or " " <= sign <= "~" for sign in text))
                rows = text.split("\n")
                self.assertLessEqual(len(rows), 400)
                self.assertLessEqual(max(len(row) for row in rows), 120)
                self.assertIsNone(BARRED_WORDS.search(text))

    def test_forms(self):
        for path in FILES:
            for node in ast.walk(ast.parse(path.read_text())):
                with self.subTest(path=path.name, row=getattr(node, "lineno", 0)):
                    self.assertNotIsInstance(node, BARRED_NODES)
                    if isinstance(node, ast.Constant):
                        self.assertNotIsInstance(node.value, (float, bytes))
                    if isinstance(node, ast.FunctionDef):
                        self.assertLessEqual(node.end_lineno - node.lineno + 1, 40)
                        self.assertEqual(node.decorator_list, [])
                    if isinstance(node, ast.ImportFrom):
                        self.assertEqual(node.level, 0)
                        self.assertEqual(node.module.split(".")[0], "creasecourt")

    def test_names_do_not_begin_with_an_underscore(self):
        for path in FILES:
            for name in names_in(ast.parse(path.read_text())):
                with self.subTest(path=path.name, name=name):
                    self.assertTrue(name == "__init__" or not name.startswith("_"))


if __name__ == "__main__":
    unittest.main()
