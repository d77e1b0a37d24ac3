"""What LANGUAGE.md asks of every file, as far as it is quickly seen."""

import ast
import builtins
import pathlib
import re
import unittest

FOLDER = pathlib.Path(__file__).resolve().parent.parent / "forthback"
BARRED_WORDS = (
    "type typing typing_extensions enum Enum IntEnum StrEnum Flag IntFlag Generic Protocol ABC ABCMeta "
    "namedtuple NamedTuple TypedDict TYPE_CHECKING abstractmethod"
).split()
BARRED_PARTS = ("dataclass", "overload", "contextmanager")
BUILTINS = (
    "len range enumerate zip min max sum abs sorted reversed int str bool bytes list tuple dict set frozenset "
    "isinstance ord repr any all divmod iter next super property staticmethod classmethod Exception ValueError "
    "TypeError KeyError IndexError LookupError ZeroDivisionError ArithmeticError OverflowError RuntimeError "
    "NotImplementedError AttributeError StopIteration NotImplemented"
).split()
INTERFACE = {
    "limits": "MOST_LANE",
    "errors": (
        "Unlike NotAlike NoStep BadWord BadRow BadDeed NoBin NoGate NoDeed TooMany Full Barred Lacks Open NoRow"
    ),
    "lines": (
        "is_line gates is_widths is_standing bare full lacking turned_line turned turned_widths"
    ),
}


def files():
    return sorted(path for path in FOLDER.iterdir() if path.name != "__pycache__")


def trees():
    return [(path, ast.parse(path.read_text("ascii"))) for path in files()]


def nodes():
    return [(path, node) for path, tree in trees() for node in ast.walk(tree)]


def where(path, node):
    return f"{path.name}:{node.lineno}"


def bound_names(statement):
    if isinstance(statement, (ast.FunctionDef, ast.ClassDef)):
        return [statement.name]
    if isinstance(statement, ast.Assign):
        return [target.id for target in statement.targets]
    return []


class Package(unittest.TestCase):
    def test_nothing_but_python_files(self):
        for path in files():
            self.assertRegex(path.name, r"\A[a-z0-9_]+\.py\Z")
        self.assertIn("__init__.py", [path.name for path in files()])

    def test_characters_and_sizes(self):
        for path in files():
            text = path.read_bytes().decode("ascii")
            lines = text.split("\n")
            with self.subTest(path.name):
                self.assertRegex(text, r"\A[ -~\n]*\n\Z")
                self.assertLessEqual(len(lines), 399)
                self.assertLessEqual(max(len(line) for line in lines), 120)

    def test_barred_words(self):
        for path in files():
            text = path.read_text("ascii")
            with self.subTest(path.name):
                self.assertEqual([word for word in re.findall(r"\w+", text) if word in BARRED_WORDS], [])
                self.assertEqual([part for part in BARRED_PARTS if part in text], [])

    def test_functions_have_forty_lines_at_most(self):
        for path, node in nodes():
            if isinstance(node, ast.FunctionDef):
                self.assertLessEqual(node.end_lineno - node.lineno + 1, 40, where(path, node))

    def test_imports_are_of_the_package_alone(self):
        for path, node in nodes():
            self.assertNotIsInstance(node, ast.Import, path.name)
            if isinstance(node, ast.ImportFrom):
                self.assertEqual(node.level, 0, where(path, node))
                self.assertRegex(node.module, r"\Aforthback\.[a-z_]+\Z", where(path, node))

    def test_builtins_are_those_allowed(self):
        for path, node in nodes():
            if isinstance(node, ast.Name) and hasattr(builtins, node.id):
                self.assertIn(node.id, BUILTINS, where(path, node))

    def test_no_name_begins_with_an_underscore(self):
        for path, node in nodes():
            if isinstance(node, ast.Name):
                self.assertFalse(node.id.startswith("_"), where(path, node))
            if isinstance(node, ast.arg):
                self.assertFalse(node.arg.startswith("_"), where(path, node))

    def test_no_percent_sign_and_no_float_among_the_values(self):
        for path, node in nodes():
            if isinstance(node, ast.Constant):
                self.assertNotIsInstance(node.value, (float, complex), where(path, node))
                self.assertNotIn("%", str(node.value), where(path, node))

    def test_interface_is_defined_in_its_own_file(self):
        for name, words in INTERFACE.items():
            tree = ast.parse((FOLDER / f"{name}.py").read_text("ascii"))
            defined = [bound for statement in tree.body for bound in bound_names(statement)]
            for word in words.split():
                with self.subTest(f"{name}.{word}"):
                    self.assertEqual(defined.count(word), 1)


if __name__ == "__main__":
    unittest.main()
