"""What LANGUAGE.md asks of every file, as far as it is quickly seen."""

import ast
import builtins
import pathlib
import re
import unittest

FOLDER = pathlib.Path(__file__).resolve().parent.parent / "forthback"
BARRED_WORDS = (
    "type typing typing_extensions enum Enum IntEnum StrEnum Flag IntFlag Generic Protocol ABC ABCMeta "
    "namedtuple NamedTuple TypedDict TYPE_CHECKING abstractmethod"
).split()
BARRED_PARTS = ("dataclass", "overload", "contextmanager")
BUILTINS = (
    "len range enumerate zip min max sum abs sorted reversed int str bool bytes list tuple dict set frozenset "
    "isinstance ord repr any all divmod iter next super property staticmethod classmethod Exception ValueError "
    "TypeError KeyError IndexError LookupError ZeroDivisionError ArithmeticError OverflowError RuntimeError "
    "NotImplementedError AttributeError StopIteration NotImplemented"
).split()
INTERFACE = {
    "limits": "MOST_LANE",
    "errors": (
        "Unlike NotAlike NoStep BadWord BadRow BadDeed NoBin NoGate NoDeed TooMany Full Barred Lacks Open NoRow"
    ),
    "lines": (
        "is_line gates is_widths is_standing bare full lacking turned_line turned turned_widths"
    ),
    "beats": "moved beat beats contrary",
    "runs": "led taken_back",
    "turns": "is_turns joined beats_in net back_turns forgotten is_forgotten so_often forgets",
    "walks": "cost price least_walk shows_count",
    "tables": "Table",
    "far": "counts far far_turns when",
    "been": "is_behind had raised depth",
    "pace": "pace slow_round heights shows_pace best_ring",
    "apart": "between apart is_further lesser greater with_more",
    "rest": "rest rests_when rest_counts is_resting",
    "who": "lane where who goes_by",
    "yard": "Yard",
    "texts": "line_text line_in turns_text turns_in",
    "desk": "answers",
}
METHODS = {
    ("tables", "Table"): "__init__ steps price counts then led led_back __eq__",
    ("yard", "Yard"): (
        "__init__ go put take widen turn undo do line widths standing counts came deeds as_of twin marks "
        "__len__ __eq__ __str__"
    ),
}


def files():
    return sorted(path for path in FOLDER.iterdir() if path.name != "__pycache__")


def trees():
    return [(path, ast.parse(path.read_text("ascii"))) for path in files()]


def nodes():
    return [(path, node) for path, tree in trees() for node in ast.walk(tree)]


def where(path, node):
    return f"{path.name}:{node.lineno}"


def names_from_elsewhere(tree):
    """The names that a file imports, and those of its classes: nothing within a function may be called so."""
    imports = [node for node in tree.body if isinstance(node, ast.ImportFrom)]
    imported = [name.asname or name.name for node in imports for name in node.names]
    return imported + [node.name for node in tree.body if isinstance(node, ast.ClassDef)]


def bound_names(statement):
    if isinstance(statement, (ast.FunctionDef, ast.ClassDef)):
        return [statement.name]
    if isinstance(statement, ast.Assign):
        return [target.id for target in statement.targets]
    return []


class Package(unittest.TestCase):
    def test_nothing_but_python_files(self):
        for path in files():
            self.assertRegex(path.name, r"\A[a-z0-9_]+\.py\Z")
        self.assertIn("__init__.py", [path.name for path in files()])

    def test_characters_and_sizes(self):
        for path in files():
            text = path.read_bytes().decode("ascii")
            lines = text.split("\n")
            with self.subTest(path.name):
                self.assertRegex(text, r"\A[ -~\n]*\n\Z")
                self.assertLessEqual(len(lines), 399)
                self.assertLessEqual(max(len(line) for line in lines), 120)

    def test_barred_words(self):
        for path in files():
            text = path.read_text("ascii")
            with self.subTest(path.name):
                self.assertEqual([word for word in re.findall(r"\w+", text) if word in BARRED_WORDS], [])
                self.assertEqual([part for part in BARRED_PARTS if part in text], [])

    def test_functions_have_forty_lines_at_most(self):
        for path, node in nodes():
            if isinstance(node, ast.FunctionDef):
                self.assertLessEqual(node.end_lineno - node.lineno + 1, 40, where(path, node))

    def test_imports_are_of_the_package_alone(self):
        for path, node in nodes():
            self.assertNotIsInstance(node, ast.Import, path.name)
            if isinstance(node, ast.ImportFrom):
                self.assertEqual(node.level, 0, where(path, node))
                self.assertRegex(node.module, r"\Aforthback\.[a-z_]+\Z", where(path, node))

    def test_builtins_are_those_allowed(self):
        for path, node in nodes():
            if isinstance(node, ast.Name) and hasattr(builtins, node.id):
                self.assertIn(node.id, BUILTINS, where(path, node))

    def test_no_name_begins_with_an_underscore(self):
        for path, node in nodes():
            if isinstance(node, ast.Name):
                self.assertFalse(node.id.startswith("_"), where(path, node))
            if isinstance(node, ast.arg):
                self.assertFalse(node.arg.startswith("_"), where(path, node))

    def test_no_percent_sign_and_no_float_among_the_values(self):
        for path, node in nodes():
            if isinstance(node, ast.Constant):
                self.assertNotIsInstance(node.value, (float, complex), where(path, node))
                self.assertNotIn("%", str(node.value), where(path, node))

    def test_nothing_in_a_function_is_called_as_an_import(self):
        for path, tree in trees():
            taken = names_from_elsewhere(tree)
            self.assertEqual(len(taken), len(set(taken)), path.name)
            for node in ast.walk(tree):
                if isinstance(node, ast.Name) and isinstance(node.ctx, ast.Store):
                    self.assertNotIn(node.id, taken, where(path, node))
                if isinstance(node, ast.arg):
                    self.assertNotIn(node.arg, taken, where(path, node))

    def test_imports_name_the_file_that_defines(self):
        for path, tree in trees():
            for node in tree.body:
                if isinstance(node, ast.ImportFrom):
                    source = ast.parse((FOLDER / f"{node.module.split('.')[1]}.py").read_text("ascii"))
                    defined = [bound for statement in source.body for bound in bound_names(statement)]
                    for name in node.names:
                        self.assertIn(name.name, defined, where(path, node))
                        self.assertIsNone(name.asname, where(path, node))

    def test_every_import_is_used(self):
        for path, tree in trees():
            used = [node.id for node in ast.walk(tree) if isinstance(node, ast.Name)]
            for name in names_from_elsewhere(tree):
                if not any(isinstance(node, ast.ClassDef) and node.name == name for node in tree.body):
                    self.assertIn(name, used, path.name)

    def test_no_name_is_a_method_and_an_attribute(self):
        methods = [
            part.name for _, node in nodes() if isinstance(node, ast.ClassDef)
            for part in node.body if isinstance(part, ast.FunctionDef)
        ]
        for path, node in nodes():
            if isinstance(node, ast.Attribute) and isinstance(node.ctx, ast.Store):
                self.assertNotIn(node.attr, methods, where(path, node))

    def test_no_sign_or_statement_that_is_barred(self):
        barred = (
            ast.GeneratorExp, ast.Div, ast.Global, ast.Set, ast.SetComp, ast.AsyncFunctionDef, ast.Await,
            ast.AnnAssign,
        )
        for path, node in nodes():
            # Some of these are allowed in places; so far nothing needs them.
            self.assertNotIsInstance(node, barred, path.name)
            if isinstance(node, ast.Compare):
                for sign, other in zip(node.ops, node.comparators):
                    if isinstance(sign, (ast.Is, ast.IsNot)):
                        self.assertIsInstance(other, ast.Constant, where(path, node))

    def test_only_own_errors_are_caught(self):
        for path, node in nodes():
            if isinstance(node, ast.ExceptHandler):
                caught = node.type.elts if isinstance(node.type, ast.Tuple) else [node.type]
                for one in caught:
                    self.assertIn(one.id, INTERFACE["errors"].split(), where(path, node))
                self.assertIsNone(node.name, where(path, node))
            if isinstance(node, ast.Try):
                self.assertEqual(node.finalbody, [], where(path, node))

    def test_errors_are_made_where_they_are_raised(self):
        for path, node in nodes():
            if isinstance(node, ast.Raise) and node.exc is not None:
                self.assertIsInstance(node.exc, ast.Call, where(path, node))
                self.assertIn(node.exc.func.id, INTERFACE["errors"].split(), where(path, node))

    def test_texts_made_of_parts_have_no_formats(self):
        for path, node in nodes():
            if isinstance(node, ast.FormattedValue):
                self.assertIsNone(node.format_spec, where(path, node))
                self.assertEqual(node.conversion, -1, where(path, node))
                self.assertIsInstance(node.value, ast.Name, where(path, node))

    def test_what_a_text_or_a_length_is_told_by_assigns_nothing(self):
        for path, node in nodes():
            if isinstance(node, ast.FunctionDef) and node.name in ("__eq__", "__len__", "__str__", "__repr__"):
                self.assertEqual([kind.__class__ for kind in node.body], [ast.Return], where(path, node))

    def test_one_lambda_in_a_line_at_most(self):
        for path in files():
            for at, line in enumerate(path.read_text("ascii").split("\n")):
                self.assertLessEqual(line.count("lambda"), 1, f"{path.name}:{at + 1}")

    def test_interface_is_defined_in_its_own_file(self):
        for name, words in INTERFACE.items():
            tree = ast.parse((FOLDER / f"{name}.py").read_text("ascii"))
            defined = [bound for statement in tree.body for bound in bound_names(statement)]
            for word in words.split():
                with self.subTest(f"{name}.{word}"):
                    self.assertEqual(defined.count(word), 1)

    def test_methods_stand_in_the_class_itself(self):
        for (name, made), words in METHODS.items():
            tree = ast.parse((FOLDER / f"{name}.py").read_text("ascii"))
            body = [node for node in tree.body if isinstance(node, ast.ClassDef) and node.name == made][0].body
            defined = [part.name for part in body if isinstance(part, ast.FunctionDef)]
            for word in words.split():
                with self.subTest(f"{made}.{word}"):
                    self.assertEqual(defined.count(word), 1)

    def test_no_two_files_import_from_each_other(self):
        straight = {
            path.stem: {node.module.split(".")[1] for node in tree.body if isinstance(node, ast.ImportFrom)}
            for path, tree in trees()
        }
        left = dict(straight)
        while left:
            free = [name for name, wanted in left.items() if not wanted & set(left)]
            self.assertNotEqual(free, [], sorted(left))
            for name in free:
                del left[name]


if __name__ == "__main__":
    unittest.main()
