"""The form of the package's files, as far as it can be read off them."""

import ast
import builtins
import pathlib
import re
import unittest

PACKAGE = pathlib.Path(__file__).resolve().parent.parent / "cotide"
FILES = sorted(PACKAGE.glob("*.py"))
BARRED_WORDS = re.compile(
    r"\b(type|typing|typing_extensions|enum|Enum|IntEnum|StrEnum|Flag|IntFlag|Generic|Protocol|ABC|ABCMeta|namedtuple"
    r"|NamedTuple|TypedDict|TYPE_CHECKING|abstractmethod)\b|dataclass|overload|contextmanager")
BARRED_NODES = (ast.Global, ast.AsyncFunctionDef, ast.Await, ast.Div, ast.Import)
ALLOWED_BUILTINS = set(
    "len range enumerate zip min max sum abs sorted reversed int str bool bytes list tuple dict set frozenset isinstance"
    " ord repr any all divmod Exception ValueError TypeError KeyError IndexError LookupError ZeroDivisionError"
    " ArithmeticError OverflowError RuntimeError NotImplementedError StopIteration NotImplemented iter next".split())
ALLOWED_METHODS = set(
    "append clear copy count endswith extend find get index insert isalnum isalpha isdigit islower isspace isupper items"
    " join keys ljust lower lstrip partition pop remove replace reverse rfind rjust rpartition rsplit rstrip setdefault"
    " split splitlines startswith strip update upper values zfill bit_length sort add discard".split())


def trees():
    return [(file.name, ast.parse(file.read_text(encoding="ascii"))) for file in FILES]


def bound_names(node):
    """The names that a node binds."""
    if isinstance(node, (ast.FunctionDef, ast.ClassDef)):
        return [node.name]
    if isinstance(node, ast.arg):
        return [node.arg]
    if isinstance(node, ast.Name) and not isinstance(node.ctx, ast.Load):
        return [node.id]
    if isinstance(node, ast.Attribute) and not isinstance(node.ctx, ast.Load):
        return [node.attr]
    return []


def module_names(tree):
    """The names bound at module level, each as often as it is."""
    found = []
    for node in tree.body:
        if isinstance(node, ast.ImportFrom):
            found += [one.asname or one.name for one in node.names]
        elif isinstance(node, ast.Assign):
            found += [name for target in node.targets for name in bound_names(target)]
        else:
            found += bound_names(node)
    return found


def imported_files(tree):
    return {node.module.partition(".")[2] for node in tree.body if isinstance(node, ast.ImportFrom)}


def is_set(node):
    return isinstance(node, (ast.Set, ast.SetComp)) or (
        isinstance(node, ast.Call) and isinstance(node.func, ast.Name) and node.func.id == "set")


class Form(unittest.TestCase):
    def test_folder_holds_files_of_the_package_alone(self):
        self.assertTrue((PACKAGE / "__init__.py").is_file())
        for path in PACKAGE.iterdir():
            if path.name != "__pycache__":
                self.assertRegex(path.name, r"\A[a-z0-9_]+\.py\Z")

    def test_characters_lines_and_words(self):
        for file in FILES:
            text = file.read_text(encoding="utf-8")
            self.assertRegex(text, r"\A[\n -~]*\Z", file.name)
            self.assertIsNone(BARRED_WORDS.search(text), file.name)
            rows = text.split("\n")
            self.assertLessEqual(len(rows), 399, file.name)
            self.assertLessEqual(max(len(row) for row in rows), 120, file.name)

    def test_functions_are_short(self):
        for name, tree in trees():
            for node in ast.walk(tree):
                if isinstance(node, ast.FunctionDef):
                    self.assertLessEqual(node.end_lineno - node.lineno + 1, 40, (name, node.name))

    def test_imports_name_the_file_that_defines(self):
        defined = {name[:-3]: {bound for node in tree.body if not isinstance(node, ast.ImportFrom)
                               for bound in module_names(ast.Module([node], []))} for name, tree in trees()}
        for name, tree in trees():
            for node in ast.walk(tree):
                if isinstance(node, ast.ImportFrom):
                    self.assertIn(node, tree.body, name)
                    self.assertEqual((node.level, node.module.partition(".")[0]), (0, "cotide"), name)
                    for one in node.names:
                        self.assertIn(one.name, defined[node.module.partition(".")[2]], name)

    def test_no_barred_statement_number_or_string(self):
        for name, tree in trees():
            for node in ast.walk(tree):
                self.assertNotIsInstance(node, BARRED_NODES, name)
                if isinstance(node, ast.Constant):
                    self.assertNotIsInstance(node.value, float, name)
                    self.assertNotIn("%", str(node.value), name)

    def test_plain_names(self):
        for name, tree in trees():
            for node in ast.walk(tree):
                for bound in bound_names(node):
                    self.assertRegex(bound, r"\A([A-Za-z][A-Za-z0-9_]*|__[a-z]+__)\Z", name)

    def test_builtins_are_those_of_the_list_and_keep_their_meaning(self):
        for name, tree in trees():
            for node in ast.walk(tree):
                if isinstance(node, ast.Name) and node.id in dir(builtins):
                    self.assertIn(node.id, ALLOWED_BUILTINS, name)
                    self.assertIsInstance(node.ctx, ast.Load, name)
                if isinstance(node, (ast.FunctionDef, ast.ClassDef, ast.arg)):
                    self.assertNotIn(bound_names(node)[0], dir(builtins), name)

    def test_methods_of_values_are_those_of_the_list(self):
        own = {bound for _, tree in trees() for node in ast.walk(tree) for bound in bound_names(node)}
        for name, tree in trees():
            for node in ast.walk(tree):
                if isinstance(node, ast.Attribute):
                    self.assertIn(node.attr, ALLOWED_METHODS | own, name)

    def test_names_are_bound_once_at_module_level(self):
        for name, tree in trees():
            names = module_names(tree)
            self.assertEqual(sorted(names), sorted(set(names)), name)

    def test_nothing_within_has_the_name_of_an_import_or_class(self):
        for name, tree in trees():
            barred = {one.name for node in tree.body if isinstance(node, ast.ImportFrom) for one in node.names}
            barred |= {node.name for node in tree.body if isinstance(node, ast.ClassDef)}
            for top in tree.body:
                if not isinstance(top, (ast.ImportFrom, ast.ClassDef)):
                    for node in ast.walk(top):
                        self.assertEqual(set(bound_names(node)) & barred, set(), name)

    def test_no_two_files_import_from_each_other(self):
        left = {name[:-3]: imported_files(tree) for name, tree in trees()}
        while left:
            free = [name for name in left if not left[name] & set(left)]
            self.assertNotEqual(free, [], left)
            for name in free:
                del left[name]

    def test_is_stands_with_none_true_and_false_alone(self):
        for name, tree in trees():
            for node in ast.walk(tree):
                if isinstance(node, ast.Compare):
                    for sign, right in zip(node.ops, node.comparators):
                        if isinstance(sign, (ast.Is, ast.IsNot)):
                            self.assertIsInstance(right, ast.Constant, name)
                            self.assertIn(right.value, (None, True, False), name)

    def test_raise_creates_its_error_on_the_spot(self):
        for name, tree in trees():
            for node in ast.walk(tree):
                if isinstance(node, ast.Raise) and node.exc is not None:
                    self.assertIsInstance(node.exc, ast.Call, name)
                    self.assertIsInstance(node.exc.func, ast.Name, name)

    def test_module_level_holds_no_other_statements(self):
        for name, tree in trees():
            for node in tree.body[1:]:
                self.assertIsInstance(node, (ast.ImportFrom, ast.Assign, ast.FunctionDef, ast.ClassDef), name)
                if isinstance(node, ast.Assign):
                    self.assertEqual(len(node.targets), 1, name)
                    self.assertIsInstance(node.targets[0], ast.Name, name)
                if isinstance(node, ast.ClassDef):
                    for inner in node.body:
                        self.assertIsInstance(inner, (ast.FunctionDef, ast.Expr), name)

    def test_no_decorators_annotations_or_generators(self):
        for name, tree in trees():
            for node in ast.walk(tree):
                self.assertNotIsInstance(node, (ast.GeneratorExp, ast.Yield, ast.YieldFrom, ast.AnnAssign), name)
                if isinstance(node, (ast.FunctionDef, ast.ClassDef)):
                    self.assertEqual(node.decorator_list, [], name)
                if isinstance(node, ast.FunctionDef):
                    self.assertIsNone(node.returns, name)
                if isinstance(node, ast.arg):
                    self.assertIsNone(node.annotation, name)

    def test_handlers_name_own_errors(self):
        own = {bound for name, tree in trees() if name == "errors.py" for bound in module_names(tree)}
        for name, tree in trees():
            for node in ast.walk(tree):
                if isinstance(node, ast.ExceptHandler):
                    some = node.type.elts if isinstance(node.type, ast.Tuple) else [node.type]
                    self.assertLessEqual({one.id for one in some}, own, name)

    def test_no_name_is_a_method_and_an_attribute(self):
        methods, stored, read = set(), set(), set()
        for _, tree in trees():
            for node in ast.walk(tree):
                if isinstance(node, ast.ClassDef):
                    methods |= {inner.name for inner in node.body if isinstance(inner, ast.FunctionDef)}
                if isinstance(node, ast.Attribute):
                    (read if isinstance(node.ctx, ast.Load) else stored).add(node.attr)
        self.assertEqual(methods & stored, set())
        self.assertLessEqual(read, methods | stored | ALLOWED_METHODS)

    def test_sets_are_not_added_to_where_a_class_has_add(self):
        # Log.add takes the name, and logs compare, so lists are not sorted in place either.
        for name, tree in trees():
            for node in ast.walk(tree):
                if isinstance(node, ast.Attribute):
                    self.assertNotIn(node.attr, ("sort", "discard"), name)
                if isinstance(node, ast.FunctionDef):
                    sets = {target.id for inner in ast.walk(node) if isinstance(inner, ast.Assign)
                            for target in inner.targets if isinstance(target, ast.Name) and is_set(inner.value)}
                    for inner in ast.walk(node):
                        if isinstance(inner, ast.Attribute) and isinstance(inner.value, ast.Name):
                            self.assertNotIn(inner.value.id, sets, name)

    def test_strings_within_f_strings(self):
        for name, tree in trees():
            for node in ast.walk(tree):
                if isinstance(node, ast.FormattedValue):
                    for inner in ast.walk(node.value):
                        self.assertNotIsInstance(inner, (ast.Constant, ast.JoinedStr), name)

    def test_methods_with_two_underscores(self):
        for name, tree in trees():
            for node in ast.walk(tree):
                if isinstance(node, ast.FunctionDef) and node.name.startswith("__"):
                    self.assertIn(node.name, ("__init__", "__eq__", "__len__", "__str__", "__repr__"), name)
                    if node.name != "__init__":
                        self.assertEqual([type(one) for one in node.body], [ast.Return], name)


if __name__ == "__main__":
    unittest.main()
