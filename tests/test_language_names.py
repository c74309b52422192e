"""Those rules of LANGUAGE.md on names, classes and calls that can be seen over all files at once."""

import ast
import builtins
import unittest

from test_language import nodes, trees

BUILTIN_METHODS = """append clear copy count endswith extend find get index insert isalnum isalpha isdigit islower isspace
isupper items join keys ljust lower lstrip partition pop remove replace reverse rfind rjust rpartition rsplit rstrip
setdefault split splitlines startswith strip update upper values zfill bit_length""".split()
OWN_MAY_BE = BUILTIN_METHODS + ["add", "discard"]
DOUBLE_UNDERSCORE = ["__init__", "__eq__", "__len__"]
NOWHERE = "register mro elements open input law version_info with_traceback add_note format format_map".split()
NO_NAMES = """attrgetter breakpoint builtins compile copyright credits delattr dir eval exec exit gc getattr globals hasattr
help id importlib license locals methodcaller os quit setattr super type vars sys""".split()
KEYWORDS = {"sorted": {"key", "reverse"}, "min": {"key", "default"}, "max": {"key", "default"}, "sum": {"start"},
            "enumerate": {"start"}, "zip": {"strict"}}
LAZY = ("zip", "enumerate", "reversed", "range")
TAKE_LAZY = ("list", "tuple", "dict", "sorted", "sum", "any", "all", "enumerate", "zip", "reversed")


def classes():
    return [node for name, node in nodes(ast.ClassDef)]


def methods():
    return [node for made in classes() for node in made.body if isinstance(node, ast.FunctionDef)]


def method_names():
    return {node.name for node in methods()}


def attribute_names():
    return {node.attr for name, node in nodes(ast.Attribute) if isinstance(node.ctx, ast.Store)}


def parents(tree):
    return {below: above for above in ast.walk(tree) for below in ast.iter_child_nodes(above)}


def is_call_of(node, *names):
    return isinstance(node, ast.Call) and isinstance(node.func, ast.Name) and node.func.id in names


def local_names(function):
    """The names of a function's parameters and of all that it assigns."""
    given = function.args
    names = [found.arg for found in given.posonlyargs + given.args + given.kwonlyargs]
    return names + [node.id for node in ast.walk(function) if isinstance(node, ast.Name) and isinstance(node.ctx, ast.Store)]


class Names(unittest.TestCase):
    def test_no_name_is_a_method_here_and_an_attribute_there(self):
        self.assertEqual(method_names() & attribute_names(), set())

    def test_attributes_that_are_read_are_assigned(self):
        known = method_names() | attribute_names() | set(BUILTIN_METHODS)
        for name, node in nodes(ast.Attribute):
            self.assertIn(node.attr, known, (name, node.lineno))

    def test_own_names_are_not_those_of_builtin_values(self):
        taken = {word for kind in (str, int, list, tuple, dict, set, bytes) for word in dir(kind)}
        for word in (method_names() | attribute_names()) - set(OWN_MAY_BE):
            if word not in DOUBLE_UNDERSCORE:
                self.assertNotIn(word, taken)

    def test_double_underscore_methods(self):
        for word in method_names():
            if word.startswith("__"):
                self.assertIn(word, DOUBLE_UNDERSCORE)

    def test_names_that_are_not_used(self):
        for name, node in nodes(ast.FunctionDef):
            for word in local_names(node) + [node.name]:
                self.assertNotIn(word, NOWHERE + NO_NAMES, (name, node.name))
        for word in attribute_names():
            self.assertNotIn(word, NOWHERE)

    def test_names_are_bound_once_at_the_top(self):
        for name, tree in trees():
            bound = [node.name for node in tree.body if isinstance(node, (ast.FunctionDef, ast.ClassDef))]
            for node in tree.body:
                if isinstance(node, ast.Assign):
                    self.assertEqual([type(target) for target in node.targets], [ast.Name], name)
                    bound.append(node.targets[0].id)
                if isinstance(node, ast.ImportFrom):
                    bound += [alias.asname or alias.name for alias in node.names]
            self.assertEqual(len(bound), len(set(bound)), name)
            self.assertEqual([word for word in bound if hasattr(builtins, word)], [], name)

    def test_no_local_name_hides_a_class_or_an_import(self):
        for name, tree in trees():
            top = {node.name for node in tree.body if isinstance(node, ast.ClassDef)}
            top |= {alias.name for node in tree.body if isinstance(node, ast.ImportFrom) for alias in node.names}
            for node in ast.walk(tree):
                if isinstance(node, ast.FunctionDef):
                    self.assertEqual(set(local_names(node)) & top, set(), (name, node.name))
                    self.assertEqual([word for word in local_names(node) if hasattr(builtins, word)], [], (name, node.name))

    def test_every_import_is_used(self):
        for name, tree in trees():
            used = {node.id for node in ast.walk(tree) if isinstance(node, ast.Name)}
            imported = {alias.name for node in tree.body if isinstance(node, ast.ImportFrom) for alias in node.names}
            self.assertEqual(imported - used, set(), name)


class Classes(unittest.TestCase):
    def test_a_class_has_methods_alone(self):
        for made in classes():
            self.assertEqual(made.decorator_list + made.keywords, [])
            for node in made.body:
                is_text = isinstance(node, ast.Expr) and isinstance(node.value, ast.Constant)
                self.assertTrue(is_text or isinstance(node, ast.FunctionDef), (made.name, node))

    def test_no_method_is_defined_twice(self):
        for made in classes():
            names = [node.name for node in made.body if isinstance(node, ast.FunctionDef)]
            self.assertEqual(len(names), len(set(names)), made.name)

    def test_comparing_and_measuring_change_nothing(self):
        for node in methods():
            if node.name in ("__eq__", "__len__"):
                self.assertIsInstance(node.body[-1], ast.Return)
                for found in ast.walk(node):
                    self.assertNotIsInstance(found, (ast.Assign, ast.AugAssign, ast.AnnAssign, ast.Delete, ast.NamedExpr))

    def test_a_length_is_a_len(self):
        for node in methods():
            if node.name == "__len__":
                for found in ast.walk(node):
                    if isinstance(found, ast.Return):
                        self.assertTrue(is_call_of(found.value, "len"))

    def test_no_star_or_decorator(self):
        for name, node in nodes(ast.FunctionDef):
            self.assertEqual(node.decorator_list, [], (name, node.name))
            self.assertEqual((node.args.posonlyargs, node.args.vararg, node.args.kwarg), ([], None, None), (name, node.name))
            for default in node.args.defaults + [value for value in node.args.kw_defaults if value]:
                self.assertIsInstance(default, ast.Constant, (name, node.name))


class Values(unittest.TestCase):
    def test_the_top_of_a_file(self):
        for name, tree in trees():
            for node in tree.body:
                is_text = isinstance(node, ast.Expr) and isinstance(node.value, ast.Constant)
                kinds = (ast.ImportFrom, ast.FunctionDef, ast.ClassDef, ast.Assign)
                self.assertTrue(is_text or isinstance(node, kinds), (name, node.lineno))
                if isinstance(node, ast.Assign):
                    inner = list(ast.walk(node.value))[1:]
                    self.assertFalse([one for one in inner if isinstance(one, (ast.List, ast.Dict, ast.Call, ast.Set))], name)

    def test_sets_stand_where_they_may(self):
        for name, tree in trees():
            above = parents(tree)
            for node in ast.walk(tree):
                if isinstance(node, (ast.Set, ast.SetComp)) or is_call_of(node, "set", "frozenset"):
                    place = above[node]
                    told = is_call_of(place, "sorted", "len") or isinstance(place, (ast.Compare, ast.BinOp))
                    self.assertTrue(told, (name, node.lineno))

    def test_lazy_things_are_iterated_at_once(self):
        for name, tree in trees():
            above = parents(tree)
            for node in ast.walk(tree):
                is_view = isinstance(node, ast.Call) and isinstance(node.func, ast.Attribute) and (
                    node.func.attr in ("items", "keys", "values"))
                if is_call_of(node, *LAZY) or is_view:
                    place = above[node]
                    told = is_call_of(place, *TAKE_LAZY) or isinstance(place, (ast.For, ast.comprehension))
                    self.assertTrue(told, (name, node.lineno))

    def test_keywords_of_builtins(self):
        for name, node in nodes(ast.Call):
            words = {keyword.arg for keyword in node.keywords}
            if isinstance(node.func, ast.Name) and hasattr(builtins, node.func.id):
                self.assertLessEqual(words, KEYWORDS.get(node.func.id, set()), (name, node.lineno))
            if isinstance(node.func, ast.Attribute) and node.func.attr in BUILTIN_METHODS:
                self.assertEqual(words, set(), (name, node.lineno))

    def test_builtins_are_called_not_stored(self):
        for name, tree in trees():
            above = parents(tree)
            for node in ast.walk(tree):
                if not isinstance(node, ast.Name) or not hasattr(builtins, node.id):
                    continue
                place = above[node]
                if isinstance(place, ast.Tuple):
                    place = above[place]
                told = isinstance(place, ast.Call) and (place.func == node or is_call_of(place, "isinstance"))
                base = isinstance(place, (ast.ClassDef, ast.Attribute))
                self.assertTrue(told or base, (name, node.lineno, node.id))

    def test_errors_are_raised_by_their_names(self):
        for name, node in nodes(ast.Raise):
            self.assertTrue(node.exc is None or isinstance(node.exc, ast.Call) and isinstance(node.exc.func, ast.Name), name)

    def test_no_power_but_of_numbers_written_out(self):
        for name, node in nodes(ast.BinOp):
            if isinstance(node.op, ast.Pow):
                self.assertIsInstance(node.right, ast.Constant, (name, node.lineno))
                self.assertIn(node.right.value, range(65), (name, node.lineno))


if __name__ == "__main__":
    unittest.main()
