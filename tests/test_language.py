"""Those rules of LANGUAGE.md that can be seen file by file; the others are up to the reader."""

import ast
import builtins
import pathlib
import re
import unittest
import warnings

PACKAGE = pathlib.Path(__file__).resolve().parent.parent / "heldhints"
BUILTINS = """len range enumerate zip min max sum abs sorted reversed int str bool bytes list tuple dict set frozenset
isinstance ord repr any all divmod iter next super Exception ValueError TypeError KeyError IndexError LookupError
ZeroDivisionError ArithmeticError OverflowError RuntimeError NotImplementedError AttributeError StopIteration
NotImplemented property staticmethod classmethod""".split()
BARRED_WORDS = """type typing typing_extensions enum Enum IntEnum StrEnum Flag IntFlag Generic Protocol ABC ABCMeta
namedtuple NamedTuple TypedDict TYPE_CHECKING abstractmethod""".split()
BARRED_PARTS = ("dataclass", "overload", "contextmanager")
BARRED_NODES = (ast.Global, ast.AsyncFunctionDef, ast.Await, ast.Div, ast.Import)
TAKE_LISTS = ("any", "all", "min", "max", "sum", "sorted")


def files():
    return sorted(path for path in PACKAGE.rglob("*") if "__pycache__" not in path.parts)


def trees():
    return [(path.name, ast.parse(path.read_text())) for path in files()]


def nodes(*kinds):
    return [(name, node) for name, tree in trees() for node in ast.walk(tree) if isinstance(node, kinds)]


def bound_names(tree):
    """The names that functions, classes and assignments at the top of a file bind."""
    names = [node.name for node in tree.body if isinstance(node, (ast.FunctionDef, ast.ClassDef))]
    targets = [target for node in tree.body if isinstance(node, ast.Assign) for target in node.targets]
    return names + [target.id for target in targets]


class Files(unittest.TestCase):
    def test_names(self):
        self.assertIn("__init__.py", [path.name for path in files()])
        for path in files():
            self.assertRegex(path.name, r"^([a-z][a-z0-9_]*|__init__|__main__)\.py$")

    def test_signs_and_sizes(self):
        for path in files():
            text = path.read_bytes().decode("ascii")
            self.assertRegex(text, r"^[\n -~]*$", path)
            rows = text.splitlines()
            self.assertLessEqual(len(rows), 399, path)
            self.assertLessEqual(max(map(len, rows)), 120, path)

    def test_barred_words(self):
        for path in files():
            words = re.findall(r"\w+", path.read_text())
            self.assertEqual([word for word in words if word in BARRED_WORDS], [], path)
            self.assertEqual([word for word in words if any(part in word for part in BARRED_PARTS)], [], path)

    def test_no_warnings(self):
        with warnings.catch_warnings():
            warnings.simplefilter("error")
            for path in files():
                compile(path.read_text(), str(path), "exec")


class Rows(unittest.TestCase):
    def test_functions_are_short(self):
        for name, node in nodes(ast.FunctionDef):
            self.assertLessEqual(node.end_lineno - node.lineno + 1, 40, (name, node.name))

    def test_imports_name_the_file_that_defines_the_name(self):
        bound = {name: bound_names(tree) for name, tree in trees()}
        for name, node in nodes(ast.ImportFrom):
            self.assertEqual(node.level, 0, name)
            package, file = node.module.split(".")
            self.assertEqual(package, "heldhints", name)
            for alias in node.names:
                self.assertIn(alias.name, bound[file + ".py"], name)

    def test_no_file_imports_itself_through_others(self):
        ahead = {}
        for name, node in nodes(ast.ImportFrom):
            ahead.setdefault(name, set()).add(node.module.split(".")[1] + ".py")
        for start in ahead:
            reached, left = set(), list(ahead[start])
            while left:
                name = left.pop()
                if name not in reached:
                    reached.add(name)
                    left.extend(ahead.get(name, ()))
            self.assertNotIn(start, reached)

    def test_builtins(self):
        for name, node in nodes(ast.Name):
            if hasattr(builtins, node.id):
                self.assertIn(node.id, BUILTINS, (name, node.lineno))
                self.assertIsInstance(node.ctx, ast.Load, (name, node.lineno))

    def test_names_are_plain(self):
        for name, node in nodes(ast.Name, ast.arg, ast.FunctionDef, ast.ClassDef, ast.Attribute):
            word = getattr(node, "id", None) or getattr(node, "arg", None) or getattr(node, "name", None) or node.attr
            if not re.match(r"^__[a-z]+__$", word):
                self.assertFalse(word.startswith("_"), (name, node.lineno))

    def test_no_barred_statements(self):
        for name, node in nodes(*BARRED_NODES):
            self.fail((name, node))

    def test_is_stands_beside_none_and_truths(self):
        for name, node in nodes(ast.Compare):
            if any(isinstance(sign, (ast.Is, ast.IsNot)) for sign in node.ops):
                self.assertIsInstance(node.comparators[0], ast.Constant, (name, node.lineno))
                self.assertIn(node.comparators[0].value, (None, True, False), (name, node.lineno))

    def test_values(self):
        for name, node in nodes(ast.Constant):
            self.assertNotIsInstance(node.value, (float, complex), (name, node.lineno))
            if isinstance(node.value, str):
                self.assertNotIn("%", node.value, (name, node.lineno))

    def test_lists_instead_of_generators(self):
        for name, node in nodes(ast.Call):
            if isinstance(node.func, ast.Name) and node.func.id in TAKE_LISTS:
                for argument in node.args:
                    self.assertNotIsInstance(argument, ast.GeneratorExp, (name, node.lineno))


class Interface(unittest.TestCase):
    functions = {
        "dots.py": "is_dot is_known together cut next_number",
        "cells.py": "is_mark is_worth is_version is_cell puts_out new_version joined without_elder dots_of "
                    "known_by worths_of has_or_more",
        "ring.py": "is_key is_place place_of",
        "news.py": "look_at_news",
        "trees.py": "differing",
        "asks.py": "targets",
        "deeds.py": "is_deed",
        "mending.py": "calm give_back compared",
        "moving.py": "come_in go_out",
        "texts.py": "show_cell show_ring show_weaving read_cell read_ring read_weaving",
        "judge.py": "dots_there missing risen",
        "weaving.py": "all_ends lets_lack lets_return lacking returning",
    }
    classes = {
        ("ring.py", "Ring"): "marks houses order homes with_house without __eq__ __len__",
        ("news.py", "News"): "doubt take here rise come leave entry entries called twin __eq__",
        ("trees.py", "Tree"): "put node leaf words twin __eq__ __len__",
        ("house.py", "House"): "called life counted new_dot keep cell note all_of words notes given_back put_cell "
                               "put_note sweep lose_all state twin __eq__ __len__",
        ("asks.py", "Writing"): "word version targets held is_told answered twin",
        ("asks.py", "Reading"): "word targets held is_told told cell answered twin",
        ("shape.py", "Shape"): "ring counts most kept homes with_ring __eq__",
        ("world.py", "World"): "do weave shape houses letters asked log one_house thoughts asker_twin book is_away now twin "
                               "__eq__ __len__",
        ("askers.py", "Asker"): "known learn hear begin leave_off busy tellings words called twin __eq__ __len__",
        ("book.py", "Book"): "versions told swept came_of losses twin",
        ("desk.py", "Desk"): "say",
    }

    def test_each_function_stands_in_its_file(self):
        found = dict(trees())
        for name, words in self.functions.items():
            defined = [node.name for node in found[name].body if isinstance(node, ast.FunctionDef)]
            for word in words.split():
                self.assertIn(word, defined, name)

    def test_each_method_stands_in_its_class_itself(self):
        found = dict(trees())
        for (name, called), words in self.classes.items():
            bodies = [node.body for node in found[name].body if isinstance(node, ast.ClassDef) and node.name == called]
            self.assertEqual(len(bodies), 1, called)
            defined = [node.name for node in bodies[0] if isinstance(node, ast.FunctionDef)]
            for word in words.split():
                self.assertIn(word, defined, called)


if __name__ == "__main__":
    unittest.main()
