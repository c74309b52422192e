"""[4.1], [4.2]: trees and what differs between two; [0.2] as far as it speaks of them."""

import copy
import itertools
import unittest

from cases import Case
from heldhints.errors import NoCell, NoKey
from heldhints.ring import place_of
from heldhints.trees import Tree, differing
from odd import Sour, no_words, odd_things

A1, A2, B1 = (1, "a", 1), (2, "a", 1), (1, "b", 1)
FIRST = ((A1, (), 10),)
BESIDE = ((B1, (), 20),)
BOTH = ((A1, (), 10), (B1, (), 20))
SECOND = ((A2, (A1,), 30),)

# The keys b and c are neighbours below one node; c and d are neighbours too, but meet three levels up.
KEYS = {"b": 2, "c": 3, "d": 4, "ld": 0, "lc": 63}


def same_place_as(key):
    """Another key at the place of this one."""
    for letters in itertools.product("abcdefghijklmnopqrstuvwxyz", repeat=2):
        if place_of("".join(letters)) == place_of(key):
            return "".join(letters)


def all_nodes():
    return [(level, number) for level in range(7) for number in range(2 ** level)]


def by_the_words(cells):
    """All nodes as the document's words tell them, from the cells."""
    found = {}
    for place in range(64):
        rows = sorted((key, tuple(version[0] for version in cell)) for key, cell in cells.items()
                      if cell and place_of(key) == place)
        found[(6, place)] = tuple(rows) or None
    for level in (5, 4, 3, 2, 1, 0):
        for k in range(2 ** level):
            below = (found[(level + 1, 2 * k)], found[(level + 1, 2 * k + 1)])
            found[(level, k)] = None if below == (None, None) else below
    return found


def nodes_of(tree):
    return {(level, number): tree.node(level, number) for level, number in all_nodes()}


class Made(Case):
    def test_of_none(self):
        for tree in (Tree(), Tree({}), Tree(None), Tree({"a": ()}), Tree({"a": (), "b": ()})):
            self.assertEqual(set(nodes_of(tree).values()), {None})
            self.assertEqual(tree.words(), [])
            self.assertEqual(len(tree), 0)
            self.are_alike(tree, Tree())

    def test_of_some_with_an_empty_one(self):
        tree = Tree({"d": FIRST, "b": BOTH, "a": (), "zz": SECOND})
        self.assertEqual(tree.words(), ["b", "d", "zz"])
        self.assertEqual(len(tree), 3)
        self.assertEqual(tree.leaf(2), (("b", (A1, B1)),))
        self.assertEqual(tree.leaf(4), (("d", (A1,)),))
        self.assertEqual(tree.leaf(1), None)
        self.assertEqual(tree.leaf(28), (("zz", (A2,)),))

    def test_every_node_of_a_small_tree(self):
        cells = {"d": FIRST, "b": BOTH, "a": (), "c": BESIDE, same_place_as("c"): SECOND, "ld": FIRST, "lc": BOTH}
        for order in (list(cells), list(cells)[::-1], sorted(cells)):
            tree = Tree({key: cells[key] for key in order})
            self.assertEqual(nodes_of(tree), by_the_words(cells))
            for place in range(64):
                self.assertEqual(tree.leaf(place), tree.node(6, place))

    def test_nodes_by_hand(self):
        self.assertEqual(KEYS, {key: place_of(key) for key in KEYS})
        leaf = (("c", (A1,)),)
        tree = Tree({"c": FIRST})
        self.assertEqual(tree.node(6, 3), leaf)
        self.assertEqual(tree.node(5, 1), (None, leaf))
        self.assertEqual(tree.node(4, 0), (None, (None, leaf)))
        self.assertEqual(tree.node(3, 0), ((None, (None, leaf)), None))
        self.assertEqual(tree.node(0, 0), (((((None, (None, leaf)), None), None), None), None))
        tree.put("b", BOTH)
        self.assertEqual(tree.node(5, 1), ((("b", (A1, B1)),), leaf))
        self.assertEqual(tree.node(5, 0), None)
        self.assertEqual(tree.node(1, 1), None)

    def test_keys_at_one_place(self):
        other = same_place_as("c")
        tree = Tree({other: SECOND, "c": FIRST})
        self.assertEqual(tree.leaf(3), tuple(sorted([("c", (A1,)), (other, (A2,))])))
        self.assertEqual(tree.put("c", ()), 7)
        self.assertEqual(tree.leaf(3), ((other, (A2,)),))
        self.assertEqual(tree.words(), [other])


class Put(Case):
    def test_turns_all_above_the_leaf(self):
        tree = Tree()
        self.assertEqual(tree.put("c", FIRST), 7)
        self.assertEqual(tree.put("b", FIRST), 7)
        self.assertEqual(tree.put("c", BOTH), 7)
        self.assertEqual(tree.put(same_place_as("c"), BOTH), 7)
        self.assertEqual(tree.put("lc", BOTH), 7)

    def test_turns_no_node(self):
        tree = Tree({"c": FIRST})
        self.assertEqual(tree.put("c", FIRST), 0)
        # The same dots: trees tell of nothing else.
        self.assertEqual(tree.put("c", ((A1, (), 99),)), 0)
        self.assertEqual(tree.put("c", ((A1, (B1,), ("gone", 3)),)), 0)
        self.assertEqual(tree.put("d", ()), 0)
        self.assertEqual(tree.put(same_place_as("c"), ()), 0)
        self.are_alike(tree, Tree({"c": FIRST}))

    def test_takes_away(self):
        tree = Tree({"c": FIRST, "b": BOTH})
        self.assertEqual(tree.put("c", ()), 7)
        self.assertEqual(tree.put("c", ()), 0)
        self.are_alike(tree, Tree({"b": BOTH}))
        self.assertEqual(tree.put("b", ()), 7)
        self.are_alike(tree, Tree())
        self.assertEqual(len(tree), 0)

    def test_in_the_stead_of_the_elder_one(self):
        tree = Tree({"c": FIRST})
        tree.put("c", BESIDE)
        self.assertEqual(tree.leaf(3), (("c", (B1,)),))

    def test_tells_how_many_nodes_are_otherwise(self):
        cells = {}
        tree = Tree()
        row = [("c", FIRST), ("b", FIRST), ("c", FIRST), ("c", BOTH), ("ld", SECOND), ("b", ()), (same_place_as("c"), FIRST),
               ("c", ()), ("c", ()), ("lc", BESIDE), (same_place_as("c"), ()), ("ld", ()), ("lc", ())]
        for key, cell in row:
            before = nodes_of(tree)
            told = tree.put(key, cell)
            cells[key] = cell
            after = nodes_of(tree)
            self.assertEqual(after, by_the_words(cells))
            self.assertEqual(told, len([at for at in after if after[at] != before[at]]))
            self.assertEqual(tree.words(), sorted(word for word in cells if cells[word]))
            self.assertEqual(len(tree), len(tree.words()))


class Refused(Case):
    def test_no_key_ahead_of_no_cell(self):
        tree = Tree({"c": FIRST})
        for thing in no_words():
            for cell in (FIRST, (), None, Sour()):
                self.refuses(NoKey, tree.put, thing, cell)
        self.are_alike(tree, Tree({"c": FIRST}))

    def test_no_cell(self):
        tree = Tree({"c": FIRST})
        for thing in odd_things() + [list(FIRST), FIRST + FIRST, FIRST + SECOND, BOTH[::-1]]:
            for key in ("c", "b"):
                self.refuses(NoCell, tree.put, key, thing)
        self.are_alike(tree, Tree({"c": FIRST}))

    def test_in_the_making(self):
        for thing in [thing for thing in no_words() if type(thing).__hash__ and not isinstance(thing, (Sour, tuple))]:
            self.refuses(NoKey, Tree, {thing: FIRST})
            self.refuses(NoKey, Tree, {"a": FIRST, thing: ()})
            self.refuses(NoKey, Tree, {"a": None, thing: FIRST})
            self.refuses(NoKey, Tree, {thing: None, "a": FIRST})
        self.refuses(NoKey, Tree, {("a",): FIRST})
        for thing in odd_things():
            self.refuses(NoCell, Tree, {"a": thing})
            self.refuses(NoCell, Tree, {"a": FIRST, "b": thing, "c": ()})

    def test_what_is_handed_in_stays_as_it_was(self):
        cells = {"c": FIRST, "a": (), "b": BOTH}
        before = copy.deepcopy(cells)
        tree = Tree(cells)
        self.assertEqual(list(cells.items()), list(before.items()))
        cells["d"] = FIRST
        cells["c"] = SECOND
        del cells["b"]
        self.are_alike(tree, Tree(before))
        wrong = {"c": FIRST, "b": None}
        self.refuses(NoCell, Tree, wrong)
        self.assertEqual(wrong, {"c": FIRST, "b": None})


class Told(Case):
    def test_alike_and_unlike(self):
        self.are_alike(Tree({"c": FIRST, "b": BOTH}), Tree({"b": BOTH, "c": FIRST, "d": ()}))
        self.are_alike(Tree({"c": FIRST}), Tree({"c": ((A1, (B1,), 77),)}))
        for cells in ({}, {"c": BOTH}, {"b": FIRST}, {"c": FIRST, "b": FIRST}, {same_place_as("c"): FIRST}):
            self.are_unlike(Tree({"c": FIRST}), Tree(cells))
        self.is_like_nothing_else(Tree())
        self.is_like_nothing_else(Tree({"c": FIRST}))
        self.are_unlike(Tree({"c": FIRST}), {"c": FIRST})

    def test_twins_go_on_by_themselves(self):
        tree = Tree({"c": FIRST, "b": BOTH})
        twin = tree.twin()
        self.are_alike(tree, twin)
        twin.put("c", ())
        twin.put("d", FIRST)
        self.are_alike(tree, Tree({"c": FIRST, "b": BOTH}))
        tree.put("b", SECOND)
        self.are_alike(twin, Tree({"b": BOTH, "d": FIRST}))
        self.assertEqual(nodes_of(twin), by_the_words({"b": BOTH, "d": FIRST}))

    def test_words_are_the_askers_own(self):
        tree = Tree({"c": FIRST, "b": BOTH})
        told = tree.words()
        self.assertIs(type(told), list)
        told.clear()
        self.assertEqual(tree.words(), ["b", "c"])
        self.assertEqual(len(tree), 2)


class Differing(Case):
    def both_ways(self, one, other, wanted):
        for pair in ((one, other), (other, one)):
            told = differing(*pair)
            self.assertIs(type(told), tuple)
            self.assertIs(type(told[0]), list)
            self.assertEqual(told, wanted)

    def test_alike_ones(self):
        self.both_ways(Tree(), Tree(), ([], 1))
        self.both_ways(Tree({"c": FIRST}), Tree({"c": FIRST, "d": ()}), ([], 1))
        self.both_ways(Tree({"c": FIRST}), Tree({"c": ((A1, (), 5),)}), ([], 1))
        tree = Tree({"c": FIRST, "lc": BOTH})
        self.both_ways(tree, tree, ([], 1))
        self.both_ways(tree, tree.twin(), ([], 1))

    def test_one_leaf_unlike(self):
        # One pair above all, and two more on each of the six levels below.
        self.both_ways(Tree(), Tree({"c": FIRST}), (["c"], 13))
        self.both_ways(Tree({"c": BOTH}), Tree({"c": FIRST}), (["c"], 13))
        self.both_ways(Tree({"c": BOTH, "lc": FIRST}), Tree({"c": FIRST, "lc": FIRST}), (["c"], 13))

    def test_two_leaves_unlike(self):
        # Side by side (2 and 3): the same pairs; far from each other (3 and 63): two ways from the first level on.
        self.both_ways(Tree(), Tree({"c": FIRST, "b": FIRST}), (["b", "c"], 13))
        self.both_ways(Tree({"b": FIRST}), Tree({"c": FIRST}), (["b", "c"], 13))
        self.both_ways(Tree({"c": FIRST}), Tree({"d": FIRST}), (["c", "d"], 1 + 2 * 4 + 4 * 2))
        self.both_ways(Tree({"c": FIRST}), Tree({"lc": FIRST}), (["c", "lc"], 1 + 2 + 4 * 5))

    def test_one_of_two_keys_at_a_place(self):
        other = same_place_as("c")
        self.both_ways(Tree({"c": FIRST, other: BOTH}), Tree({"c": FIRST}), ([other], 13))
        self.both_ways(Tree({"c": FIRST, other: BOTH}), Tree({"c": FIRST, other: SECOND}), ([other], 13))
        self.both_ways(Tree({"c": FIRST, other: BOTH}), Tree(), (sorted(["c", other]), 13))

    def test_all_leaves_unlike(self):
        words = {}
        for letters in itertools.product("abcdefghijklmnopqrstuvwxyz", repeat=2):
            words.setdefault(place_of("".join(letters)), "".join(letters))
        cells = {word: FIRST for word in words.values()}
        self.assertEqual(len(cells), 64)
        self.both_ways(Tree(cells), Tree(), (sorted(cells), 127))

    def test_by_the_words(self):
        some = [{}, {"c": FIRST}, {"c": BOTH, "b": FIRST}, {"c": FIRST, "b": FIRST, "lc": FIRST}, {"ld": BOTH, "lc": BOTH}]
        for one, other in itertools.product(some, some):
            ours, theirs = by_the_words(one), by_the_words(other)
            keys = [key for key in sorted({**one, **other}) if one.get(key) != other.get(key)]
            looked = 1 + 2 * len([at for at in ours if at[0] < 6 and ours[at] != theirs[at]])
            self.both_ways(Tree(one), Tree(other), (keys, looked))

    def test_changes_neither(self):
        one, other = Tree({"c": FIRST}), Tree({"b": BOTH})
        told = differing(one, other)
        told[0].clear()
        self.assertEqual(differing(one, other)[0], ["b", "c"])
        self.are_alike(one, Tree({"c": FIRST}))
        self.are_alike(other, Tree({"b": BOTH}))


class Arguments(Case):
    def test_by_names(self):
        tree = Tree(cells={"c": FIRST})
        self.assertEqual(tree.put(cell=FIRST, key="b"), 7)
        self.assertEqual(tree.node(number=3, level=6), (("c", (A1,)),))
        self.assertEqual(tree.leaf(place=3), (("c", (A1,)),))
        self.assertEqual(differing(other=Tree(), one=tree)[0], ["b", "c"])

    def test_none_else_may_be_left_out(self):
        tree = Tree()
        for call in (tree.put, tree.node, tree.leaf, differing):
            self.assertRaises(TypeError, call)
        self.assertRaises(TypeError, tree.put, "c")
        self.assertRaises(TypeError, tree.node, 6)
        self.assertRaises(TypeError, differing, tree)


if __name__ == "__main__":
    unittest.main()
