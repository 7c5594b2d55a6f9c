"""The form of the package's files, as far as it can be read off them."""

import ast
import pathlib
import re
import unittest

PACKAGE = pathlib.Path(__file__).resolve().parent.parent / "cotide"
FILES = sorted(PACKAGE.glob("*.py"))
BARRED_WORDS = re.compile(
    r"\b(type|typing|typing_extensions|enum|Enum|IntEnum|StrEnum|Flag|IntFlag|Generic|Protocol|ABC|ABCMeta|namedtuple"
    r"|NamedTuple|TypedDict|TYPE_CHECKING|abstractmethod)\b|dataclass|overload|contextmanager")
BARRED_NODES = (ast.Global, ast.AsyncFunctionDef, ast.Await, ast.Div, ast.Import)


def trees():
    return [(file.name, ast.parse(file.read_text(encoding="ascii"))) for file in FILES]


def bound_names(node):
    """The names that a node binds."""
    if isinstance(node, (ast.FunctionDef, ast.ClassDef)):
        return [node.name]
    if isinstance(node, ast.arg):
        return [node.arg]
    if isinstance(node, ast.Name) and not isinstance(node.ctx, ast.Load):
        return [node.id]
    if isinstance(node, ast.Attribute) and not isinstance(node.ctx, ast.Load):
        return [node.attr]
    return []


class Form(unittest.TestCase):
    def test_folder_holds_files_of_the_package_alone(self):
        self.assertTrue((PACKAGE / "__init__.py").is_file())
        for path in PACKAGE.iterdir():
            if path.name != "__pycache__":
                self.assertRegex(path.name, r"\A[a-z0-9_]+\.py\Z")

    def test_characters_lines_and_words(self):
        for file in FILES:
            text = file.read_text(encoding="utf-8")
            self.assertRegex(text, r"\A[\n -~]*\Z", file.name)
            self.assertIsNone(BARRED_WORDS.search(text), file.name)
            rows = text.split("\n")
            self.assertLessEqual(len(rows), 399, file.name)
            self.assertLessEqual(max(len(row) for row in rows), 120, file.name)

    def test_functions_are_short(self):
        for name, tree in trees():
            for node in ast.walk(tree):
                if isinstance(node, ast.FunctionDef):
                    self.assertLessEqual(node.end_lineno - node.lineno + 1, 40, (name, node.name))

    def test_imports_name_the_file_that_defines(self):
        defined = {name[:-3]: {bound for node in tree.body for bound in bound_names(node)} for name, tree in trees()}
        for name, tree in trees():
            for node in ast.walk(tree):
                if isinstance(node, ast.ImportFrom):
                    self.assertIn(node, tree.body, name)
                    self.assertEqual((node.level, node.module.partition(".")[0]), (0, "cotide"), name)
                    for one in node.names:
                        self.assertIn(one.name, defined[node.module.partition(".")[2]], name)

    def test_no_barred_statement_number_or_string(self):
        for name, tree in trees():
            for node in ast.walk(tree):
                self.assertNotIsInstance(node, BARRED_NODES, name)
                if isinstance(node, ast.Constant):
                    self.assertNotIsInstance(node.value, float, name)
                    self.assertNotIn("%", str(node.value), name)

    def test_plain_names(self):
        for name, tree in trees():
            for node in ast.walk(tree):
                for bound in bound_names(node):
                    self.assertRegex(bound, r"\A([A-Za-z][A-Za-z0-9_]*|__[a-z]+__)\Z", name)


if __name__ == "__main__":
    unittest.main()
