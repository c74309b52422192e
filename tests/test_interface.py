"""[0.2]: all that the interface lists is there by its names, and answers by the names of arguments as by their places."""

import importlib
import inspect
import itertools
import unittest

from heldhints import errors
from heldhints.askers import Asker
from heldhints.asks import Reading, Writing, targets
from heldhints.house import House
from heldhints.news import News
from heldhints.ring import Ring
from heldhints.shape import Shape
from heldhints.trees import Tree
from heldhints.world import World
from worlds import MARKS, all_of_it, four

REQUIRED = object()
A1, B1, B2 = (1, "a", 1), (1, "b", 1), (2, "b", 1)
FIRST, SECOND = ((A1, (), 10),), ((B2, (A1,), 20),)
DEEDS = [("write", "me", "b", "k", 5), ("flow",)]
SHAPE = "ring, *, copies=3, write=2, read=2, most=8, keep=20"

FUNCTIONS = {
    "dots": ["is_dot(thing)", "is_known(thing)", "together(some)", "cut(known, most=None)", "next_number(own, known)"],
    "cells": ["is_mark(thing)", "is_worth(thing)", "is_version(thing)", "is_cell(thing)", "puts_out(one, other)",
              "new_version(dot, known, worth, *, most=None)", "joined(cells)", "without_elder(cell, time)", "dots_of(cell)",
              "known_by(cell)", "worths_of(cell)", "has_or_more(cell, dots)"],
    "ring": ["is_key(thing)", "is_place(thing)", "place_of(key)"],
    "news": ["look_at_news(thing)"],
    "trees": ["differing(one, other)"],
    "asks": ["targets(order, copies, here)"],
    "deeds": ["is_deed(thing)"],
    "mending": ["calm(world, rounds)", "give_back(world, house)", "compared(world, one, other)"],
    "moving": ["come_in(world, house, places)", "go_out(world, house)"],
    "texts": ["show_cell(cell)", "show_ring(ring)", "show_weaving(deeds)", "read_cell(text)", "read_ring(text)", "read_weaving(text)"],
    "judge": ["dots_there(world, word)", "missing(world)", "risen(world, word)"],
    "weaving": ["all_ends(world, *, most=2000)", "lets_lack(counts, thing, *, strict=True)",
                "lets_return(counts, thing, *, keep=20)", "lacking(counts, *, strict=True)", "returning(counts, *, keep=20)"],
}

CLASSES = {
    ("ring", "Ring"): ["__init__(marks)", "marks()", "houses()", "order(key)", "homes(key, copies)", "with_house(house, places)",
                       "without(house)"],
    ("news", "News"): ["__init__(own, houses)", "doubt(name)", "take(news)", "here(name)", "rise()", "come(name)", "leave(name)",
                       "entry(name)", "entries()", "called()", "twin()"],
    ("trees", "Tree"): ["__init__(cells=None)", "put(key, cell)", "node(level, number)", "leaf(place)", "words()", "twin()"],
    ("house", "House"): ["__init__(called, life=1)", "called()", "life()", "counted()", "new_dot(known)",
                         "keep(word, cell, *, place=None)", "cell(word)", "note(word, place)", "all_of(word)", "words()", "notes()",
                         "given_back(word, place, dots)", "put_cell(word, cell)", "put_note(word, place, cell)", "sweep(time)",
                         "lose_all()", "state()", "twin()"],
    ("asks", "Writing"): ["__init__(word, version, some, need)", "word()", "version()", "targets()", "held()", "is_told()",
                          "answered(called)", "twin()"],
    ("asks", "Reading"): ["__init__(word, some, need)", "word()", "targets()", "held()", "is_told()", "told()", "cell()",
                          "answered(called, cell)", "twin()"],
    ("shape", "Shape"): [f"__init__({SHAPE})", "ring()", "counts()", "most()", "kept()", "homes(word)", "with_ring(ring)"],
    ("world", "World"): [f"__init__({SHAPE}, mending=True)", "do(deed)", "weave(deeds)", "shape()", "houses()", "letters()",
                         "asked()", "log()", "one_house(name)", "thoughts(name)", "asker_twin(name)", "book()", "is_away(name)",
                         "now()", "twin()"],
    ("askers", "Asker"): ["__init__(called)", "known(word)", "learn(word, known)", "hear(number, word, worths, known)",
                          "begin(number)", "leave_off()", "busy()", "tellings()", "words()", "called()", "twin()"],
    ("desk", "Desk"): ["__init__()", "say(row)"],
    ("book", "Book"): ["versions(word)", "told()", "swept()", "came_of(dot)", "losses()", "twin()"],
}

REFUSALS = {
    "HintError": (ValueError, None), "NoVersion": (errors.HintError, ()), "NoCell": (errors.HintError, ()),
    "NoRing": (errors.HintError, ("number",)), "NoKey": (errors.HintError, ()), "NoShape": (errors.HintError, ("what",)),
    "NoKnown": (errors.HintError, ()), "NoDeed": (errors.HintError, ("number",)), "NoNews": (errors.HintError, ("house",)),
    "NoText": (errors.HintError, ("row",)), "NoRow": (errors.HintError, ()), "NoSteps": (errors.HintError, ()),
    "NoHouse": (KeyError, ("house",)), "NoAsker": (KeyError, ("asker",)), "NoAsk": (LookupError, ("number",)),
    "NoLetter": (LookupError, ("number",)), "Busy": (RuntimeError, ("what",)), "Away": (RuntimeError, ("house",)),
    "TooMany": (OverflowError, ("many",)), "NoWorld": (LookupError, ()),
}


def told_world():
    """A world of which all can be asked."""
    world = four(write=1, keep=1)
    world.weave([("write", "me", "b", "k", 5), ("gone", "me", "b", "k"), ("tick", 1), ("give", 0), ("read", "you", "a", "k")])
    return world


def still_world():
    world = four(write=1)
    world.weave([("write", "me", "b", "k", 5), ("flow",)])
    return world


def note_house():
    house = House("a")
    house.keep("k", FIRST)
    house.keep("k", SECOND, place="b")
    return house


def busy_asker():
    asker = Asker("me")
    asker.begin(3)
    return asker


def news_of_a():
    return News("a", ["b", "c"])


# Of each function or method with arguments, what is handed in, by names in the order of their places; methods have
# an object ahead.
CALLS = {
    ("dots", "is_dot"): {"thing": A1}, ("dots", "is_known"): {"thing": (A1,)}, ("dots", "together"): {"some": [(A1,), (B1,)]},
    ("dots", "cut"): {"known": (A1, B1), "most": 1}, ("dots", "next_number"): {"own": 4, "known": (B1,)},
    ("cells", "is_mark"): {"thing": ("gone", 5)}, ("cells", "is_worth"): {"thing": 5}, ("cells", "is_version"): {"thing": FIRST[0]},
    ("cells", "is_cell"): {"thing": FIRST}, ("cells", "puts_out"): {"one": SECOND[0], "other": FIRST[0]},
    ("cells", "new_version"): {"dot": B2, "known": (A1, B1), "worth": 3}, ("cells", "joined"): {"cells": [FIRST, SECOND]},
    ("cells", "without_elder"): {"cell": ((A1, (), ("gone", 3)),), "time": 3}, ("cells", "dots_of"): {"cell": FIRST},
    ("cells", "known_by"): {"cell": SECOND}, ("cells", "worths_of"): {"cell": SECOND},
    ("cells", "has_or_more"): {"cell": SECOND, "dots": (A1,)},
    ("ring", "is_key"): {"thing": "k"}, ("ring", "is_place"): {"thing": 5}, ("ring", "place_of"): {"key": "k"},
    ("news", "look_at_news"): {"thing": {"a": (1, True)}},
    ("trees", "differing"): {"one": lambda: Tree({"k": FIRST}), "other": lambda: Tree({"z": FIRST})},
    ("asks", "targets"): {"order": ["a", "b", "c"], "copies": 2, "here": (lambda: lambda name: name != "a")},
    ("deeds", "is_deed"): {"thing": ("flow",)},
    ("mending", "calm"): {"world": told_world, "rounds": 2}, ("mending", "give_back"): {"world": told_world, "house": "b"},
    ("mending", "compared"): {"world": told_world, "one": "c", "other": "b"},
    ("moving", "come_in"): {"world": still_world, "house": "e", "places": (15, 3)},
    ("moving", "go_out"): {"world": still_world, "house": "b"},
    ("texts", "show_cell"): {"cell": SECOND}, ("texts", "show_ring"): {"ring": lambda: Ring(MARKS)},
    ("texts", "show_weaving"): {"deeds": DEEDS}, ("texts", "read_cell"): {"text": "1.a.1 - 5"},
    ("texts", "read_ring"): {"text": "5 a"}, ("texts", "read_weaving"): {"text": "flow"},
    ("judge", "dots_there"): {"world": told_world, "word": "k"}, ("judge", "missing"): {"world": told_world},
    ("judge", "risen"): {"world": told_world, "word": "k"},
    ("weaving", "all_ends"): {"world": told_world}, ("weaving", "lets_lack"): {"counts": (2, 1, 1), "thing": (MARKS, DEEDS)},
    ("weaving", "lets_return"): {"counts": (2, 1, 1), "thing": (MARKS, DEEDS, "k")}, ("weaving", "lacking"): {"counts": (3, 1, 2)},
    ("weaving", "returning"): {"counts": (3, 1, 2)},
}

METHODS = {
    ("ring", "Ring"): (lambda: Ring(MARKS), {
        "__init__": {"marks": MARKS}, "order": {"key": "k"}, "homes": {"key": "k", "copies": 2},
        "with_house": {"house": "e", "places": [3, 9]}, "without": {"house": "b"}}),
    ("news", "News"): (news_of_a, {
        "__init__": {"own": "a", "houses": ["b"]}, "doubt": {"name": "b"}, "take": {"news": {"b": (3, True)}}, "here": {"name": "c"},
        "come": {"name": "d"}, "leave": {"name": "b"}, "entry": {"name": "b"}}),
    ("trees", "Tree"): (lambda: Tree({"k": FIRST}), {
        "__init__": {"cells": {"k": FIRST}}, "put": {"key": "z", "cell": SECOND}, "node": {"level": 6, "number": 11}, "leaf": {"place": 11}}),
    ("house", "House"): (note_house, {
        "__init__": {"called": "a", "life": 3}, "new_dot": {"known": (B2,)}, "keep": {"word": "z", "cell": SECOND}, "cell": {"word": "k"},
        "note": {"word": "k", "place": "b"}, "all_of": {"word": "k"}, "given_back": {"word": "k", "place": "b", "dots": (B2,)},
        "put_cell": {"word": "k", "cell": SECOND}, "put_note": {"word": "k", "place": "c", "cell": FIRST}, "sweep": {"time": 5}}),
    ("asks", "Writing"): (lambda: Writing("k", FIRST[0], [("a", None)], 1), {
        "__init__": {"word": "k", "version": FIRST[0], "some": [("a", None)], "need": 1}, "answered": {"called": "a"}}),
    ("asks", "Reading"): (lambda: Reading("k", [("a", None)], 1), {
        "__init__": {"word": "k", "some": [("a", None)], "need": 1}, "answered": {"called": "a", "cell": FIRST}}),
    ("shape", "Shape"): (lambda: Shape(Ring(MARKS)), {
        "__init__": {"ring": lambda: Ring(MARKS)}, "homes": {"word": "k"}, "with_ring": {"ring": lambda: Ring(MARKS[:3])}}),
    ("world", "World"): (told_world, {
        "__init__": {"ring": lambda: Ring(MARKS)}, "do": {"deed": ("give", 2)}, "weave": {"deeds": [("flow",), ("tick", 3)]},
        "one_house": {"name": "b"}, "thoughts": {"name": "b"}, "asker_twin": {"name": "you"}, "is_away": {"name": "b"}}),
    ("askers", "Asker"): (busy_asker, {
        "__init__": {"called": "me"}, "known": {"word": "k"}, "learn": {"word": "k", "known": (A1,)},
        "hear": {"number": 3, "word": "k", "worths": [5], "known": (A1,)}}),
    ("desk", "Desk"): (lambda: desk_of()(), {"say": {"row": "world 1 1 1 - 5 5=a"}}),
    ("book", "Book"): (lambda: told_world().book(), {"versions": {"word": "k"}, "came_of": {"dot": B1}}),
}


def module(name):
    return importlib.import_module(f"heldhints.{name}")


def desk_of():
    return module("desk").Desk


def told_signature(text):
    """The name and the parameters that a row of the interface tells."""
    name, rest = text[:-1].split("(", 1)
    return name, inspect.signature(eval(f"lambda {rest}: None"))


def parameters(function, skip):
    found = list(inspect.signature(function).parameters.values())[skip:]
    return [(one.name, one.kind, one.default) for one in found]


def made(things):
    """What is handed in, new each time."""
    return {name: thing() if inspect.isfunction(thing) else thing for name, thing in things.items()}


def seen(thing):
    """Anything that is told, or was handed in, as it can be compared."""
    if isinstance(thing, World):
        return all_of_it(thing)
    if isinstance(thing, (list, tuple)):
        return [seen(part) for part in thing]
    if isinstance(thing, dict):
        return {repr(key): seen(thing[key]) for key in thing}
    if inspect.isfunction(thing):
        return "a function"
    if hasattr(thing, "__dict__"):
        return [type(thing).__name__, {name: seen(part) for name, part in vars(thing).items()}]
    return thing


class Listed(unittest.TestCase):
    def test_functions(self):
        for file, rows in FUNCTIONS.items():
            for row in rows:
                name, wanted = told_signature(row)
                function = getattr(module(file), name)
                self.assertEqual(function.__module__, f"heldhints.{file}")
                self.assertEqual(parameters(function, 0), [(one.name, one.kind, one.default) for one in wanted.parameters.values()], row)

    def test_methods(self):
        for (file, called), rows in CLASSES.items():
            kind = getattr(module(file), called)
            self.assertEqual(kind.__module__, f"heldhints.{file}")
            for row in rows:
                name, wanted = told_signature(row)
                self.assertIn(name, vars(kind), row)
                self.assertEqual(parameters(vars(kind)[name], 1), [(one.name, one.kind, one.default) for one in wanted.parameters.values()], row)
        for kind in (Ring, News, Tree, House, Shape, World, Asker):
            self.assertIn("__eq__", vars(kind))
        for kind in (Ring, Tree, House, World, Asker):
            self.assertIn("__len__", vars(kind))

    def test_refusals(self):
        for name, (base, fields) in REFUSALS.items():
            kind = getattr(errors, name)
            self.assertEqual(kind.__bases__, (base,))
            if fields is not None:
                values = [f"value {field}" for field in fields]
                self.assertEqual(vars(kind(*values)), dict(zip(fields, values)))
                self.assertEqual(vars(kind(**dict(zip(fields, values)))), dict(zip(fields, values)))


class ByNames(unittest.TestCase):
    def answers_alike(self, call, things, what):
        """In any order of the names as by the places; what is handed in stays, but an object to which a deed is done."""
        names = list(things)
        by_places = made(things)
        wanted = seen(call()(*by_places.values()))
        for order in itertools.permutations(names):
            handed = made(things)
            before = {name: seen(thing) for name, thing in handed.items()}
            self.assertEqual(seen(call()(**{name: handed[name] for name in order})), wanted, what)
            self.assertEqual(seen(handed), seen(by_places), what)
            if what[0] not in ("mending", "moving"):
                self.assertEqual({name: seen(thing) for name, thing in handed.items()}, before, what)

    def test_functions(self):
        for file, rows in FUNCTIONS.items():
            for row in rows:
                name, wanted = told_signature(row)
                function = getattr(module(file), name)
                self.answers_alike(lambda: function, CALLS[(file, name)], (file, name))

    def test_methods(self):
        for (file, called), (make, methods) in METHODS.items():
            kind = getattr(module(file), called)
            for name, things in methods.items():
                call = (lambda: kind) if name == "__init__" else (lambda: getattr(make(), name))
                self.answers_alike(call, things, (file, called, name))

    def test_all_with_arguments_were_called(self):
        for (file, called), rows in CLASSES.items():
            some = [told_signature(row) for row in rows]
            wanted = {name for name, told in some if told.parameters}
            # begin is asked by what it leaves behind.
            self.assertEqual(wanted - set(METHODS[(file, called)][1]) - {"begin"}, set())

    def test_what_stands_behind_a_bare_star_by_names_alone(self):
        world = told_world()
        for call in (lambda: module("cells").new_version(A1, (), 5, None), lambda: House("a").keep("k", FIRST, None),
                     lambda: Shape(Ring(MARKS), 3), lambda: World(Ring(MARKS), 3), lambda: module("weaving").all_ends(world, 5),
                     lambda: module("weaving").lacking((2, 1, 1), True), lambda: module("weaving").returning((2, 1, 1), 20)):
            self.assertRaises(TypeError, call)


class Told(unittest.TestCase):
    def test_lists_and_dicts_changed_change_no_later_answer(self):
        world = told_world()
        house, news, ring, shape = note_house(), news_of_a(), Ring(MARKS), Shape(Ring(MARKS))
        asker, book, tree = world.asker_twin("me"), world.book(), Tree({"k": FIRST})
        asks = [world.houses, world.letters, world.asked, world.log, house.words, house.notes, news.entries, ring.marks, ring.houses,
                lambda: ring.order("k"), lambda: ring.homes("k", 2), lambda: shape.homes("k"), asker.tellings, asker.words,
                lambda: book.versions("k"), book.told, book.swept, lambda: book.came_of(B1), tree.words,
                lambda: module("judge").dots_there(world, "k"), lambda: module("judge").risen(world, "k"),
                lambda: module("weaving").lacking((3, 1, 1))[1], lambda: module("weaving").returning((3, 1, 1))[1],
                lambda: module("weaving").all_ends(world)[1], lambda: module("texts").read_weaving("flow"),
                lambda: targets(["a", "b"], 1, lambda name: True), lambda: world.twin().weave([("flow",)])]
        before = all_of_it(world)
        for ask in asks:
            told = ask()
            self.assertTrue(told)
            other = ask()
            for part in (other.values() if isinstance(other, dict) else other):
                if isinstance(part, (list, dict)):
                    part.clear()
            other.clear()
            self.assertEqual(ask(), told)
        self.assertEqual(all_of_it(world), before)


if __name__ == "__main__":
    unittest.main()
