"""[8.1], [8.2]: mending, as far as it can be tried without a World; [0.2] as far as it speaks of it."""

import itertools
import unittest

from cases import Case
from heldhints.errors import Away, NoHouse, NoSteps
from heldhints.house import House
from heldhints.mending import Mendable, calm, compared, give_back, notes_to_bring, share_cells
from heldhints.ring import Ring, place_of
from heldhints.shape import Shape
from odd import Sour, no_wholes, no_words
from standin import StandIn

A1, A2, B1 = (1, "a", 1), (2, "a", 1), (1, "b", 1)
FIRST = ((A1, (), 10),)
BESIDE = ((B1, (), 20),)
BOTH = FIRST + BESIDE
SECOND = ((A2, (A1,), 30),)

RING = Ring([(0, "a"), (20, "b"), (40, "c"), (50, "d")])
# With two copies the homes of k (place 11) are b and c, of z (26) c and d, of ab (7) b and c, of lc (63) a and b.
HOMES = {"k": ["b", "c"], "z": ["c", "d"], "ab": ["b", "c"], "lc": ["a", "b"]}
ROUND_OF_THREE = [("flow",), ("return", "a"), ("return", "b"), ("return", "c"), ("flow",), ("compare", "a", "b"),
                  ("compare", "a", "c"), ("compare", "b", "c")]


def stand_in(ring=RING):
    return StandIn(ring, copies=2)


class Steps(Case):
    def test_at_the_edges(self):
        for rounds in (1, 100):
            self.assertEqual(calm(stand_in(), rounds), 0)
        for rounds in (0, -1, 101, 10 ** 29, True, False):
            self.refuses(NoSteps, calm, stand_in(), rounds)

    def test_of_anything(self):
        world = stand_in()
        for thing in no_wholes():
            self.refuses(NoSteps, calm, world, thing)
        self.assertEqual(world.done, [])

    def test_ahead_of_all_that_is_asked_of_the_world(self):
        for world in (None, Sour(), Mendable()):
            for rounds in (0, 101, True, None):
                self.refuses(NoSteps, calm, world, rounds)


class GivenBack(Case):
    def test_the_deed(self):
        world = stand_in()
        self.assertIs(give_back(world, "b"), None)
        self.assertEqual(world.done, [("return", "b")])

    def test_no_house_then_away(self):
        world = stand_in()
        for thing in no_words() + ["e", "ab"]:
            self.refuses(NoHouse, give_back, world, thing, house=thing)
        world.gone_away = {"b"}
        self.refuses(Away, give_back, world, "b", house="b")
        self.assertEqual(world.done, [])

    def test_notes_by_keys_then_homes(self):
        house = House("a")
        for word, home, cell in (("k", "c", FIRST), ("k", "b", BOTH), ("ab", "d", SECOND)):
            house.keep(word, cell, place=home)
        house.keep("k", BESIDE)
        before = house.twin()
        self.assertEqual(notes_to_bring(house), [("ab", "d", SECOND), ("k", "b", BOTH), ("k", "c", FIRST)])
        self.are_alike(house, before)
        self.assertEqual(notes_to_bring(House("a")), [])


class Compared(Case):
    def test_the_deed(self):
        world = stand_in()
        self.assertIs(compared(world, "c", "a"), None)
        self.assertEqual(world.done, [("compare", "c", "a")])

    def test_no_house_of_either(self):
        world = stand_in()
        world.gone_away = {"a", "b"}
        for thing in no_words() + ["e"]:
            self.refuses(NoHouse, compared, world, thing, "a", house=thing)
            self.refuses(NoHouse, compared, world, "a", thing, house=thing)
            self.refuses(NoHouse, compared, world, thing, thing, house=thing)
        self.refuses(NoHouse, compared, world, "e", "f", house="e")
        self.assertEqual(world.done, [])

    def test_then_away_of_either(self):
        world = stand_in()
        world.gone_away = {"a", "b"}
        for one, other, house in (("a", "c", "a"), ("c", "a", "a"), ("a", "b", "a"), ("b", "a", "b"), ("a", "a", "a")):
            self.refuses(Away, compared, world, one, other, house=house)
        self.assertEqual(world.done, [])

    def test_then_the_same_one_twice(self):
        world = stand_in()
        self.refuses(NoHouse, compared, world, "a", "a", house="a")
        self.assertEqual(world.done, [])


class Shared(Case):
    def setUp(self):
        self.shape = Shape(RING, copies=2)
        self.one, self.other = House("b"), House("c")

    def test_homes(self):
        self.assertEqual({word: place_of(word) for word in HOMES}, {"k": 11, "z": 26, "ab": 7, "lc": 63})
        self.assertEqual({word: self.shape.homes(word) for word in HOMES}, HOMES)

    def test_both_have_the_join(self):
        self.one.keep("k", FIRST)
        self.other.keep("k", BESIDE)
        self.other.keep("ab", SECOND)
        # The leaves of 7 and 11 part below the fourth level: three lone ways down, then two.
        self.assertEqual(share_cells(self.shape, self.one, self.other), (("ab", "k"), 1 + 2 * 3 + 4 * 3))
        for house in (self.one, self.other):
            self.assertEqual((house.cell("k"), house.cell("ab")), (BOTH, SECOND))
        self.assertEqual(share_cells(self.shape, self.one, self.other), ((), 1))

    def test_of_keys_alone_of_which_both_are_homes(self):
        self.one.keep("lc", FIRST)
        self.other.keep("lc", SECOND)
        self.other.keep("z", FIRST)
        before = (self.one.twin(), self.other.twin())
        self.assertEqual(share_cells(self.shape, self.one, self.other), ((), 1))
        self.are_alike(self.one, before[0])
        self.are_alike(self.other, before[1])

    def test_notes_stay_as_they_are(self):
        self.one.keep("k", FIRST, place="c")
        self.other.keep("k", BESIDE)
        self.assertEqual(share_cells(self.shape, self.one, self.other), (("k",), 13))
        self.assertEqual((self.one.cell("k"), self.one.note("k", "c")), (BESIDE, FIRST))

    def test_like_dots_are_not_told(self):
        self.one.keep("k", FIRST)
        self.other.keep("k", FIRST)
        self.one.keep("ab", FIRST)
        self.assertEqual(share_cells(self.shape, self.one, self.other), (("ab",), 13))

    def test_either_way_about(self):
        self.one.keep("k", FIRST)
        self.other.keep("k", SECOND)
        ones, others = self.one.twin(), self.other.twin()
        self.assertEqual(share_cells(self.shape, self.one, self.other), share_cells(self.shape, others, ones))
        self.are_alike(self.one, ones)
        self.are_alike(self.other, others)
        self.assertEqual(self.one.cell("k"), SECOND)


class Calm(Case):
    def test_the_deeds_of_a_round(self):
        world = stand_in(Ring([(0, "c"), (20, "a"), (40, "b")]))
        self.assertEqual(calm(world, 5), 0)
        self.assertEqual(world.done, ROUND_OF_THREE)

    def test_houses_that_are_away_take_no_part(self):
        world = stand_in(RING)
        world.gone_away = {"d"}
        self.assertEqual(calm(world, 5), 0)
        self.assertEqual(world.done, ROUND_OF_THREE)
        world = stand_in(RING)
        world.gone_away = {"a", "b", "c", "d"}
        self.assertEqual(calm(world, 5), 0)
        self.assertEqual(world.done, [("flow",), ("flow",)])

    def test_until_one_turns_nothing(self):
        for rounds in (2, 3, 100):
            world = stand_in()
            world.kept_by["b"].keep("k", FIRST)
            self.assertEqual(calm(world, rounds), 1)
            self.assertEqual(world.done.count(("flow",)), 4)
            self.assertEqual(world.kept_by["c"].cell("k"), FIRST)

    def test_so_many_at_most(self):
        world = stand_in()
        world.kept_by["b"].keep("k", FIRST)
        self.assertEqual(calm(world, 1), 1)
        self.assertEqual(world.done.count(("flow",)), 2)
        self.assertEqual(calm(world, 1), 0)
        self.assertEqual(world.done.count(("flow",)), 4)

    def test_a_note_alone_turned_counts(self):
        world = stand_in()
        world.kept_by["c"].keep("k", FIRST)
        world.kept_by["b"].keep("k", FIRST)
        world.kept_by["d"].keep("k", FIRST, place="b")
        self.assertEqual(calm(world, 9), 1)
        self.assertEqual(world.kept_by["d"].notes(), [])

    def test_rounds_that_turn_something_each(self):
        """A world in which each round turns one cell, so many times."""
        for turns, rounds in itertools.product((0, 1, 3, 100, 200), (1, 2, 3, 4, 100)):
            world = Turning(turns)
            self.assertEqual(calm(world, rounds), min(turns, rounds))
            self.assertEqual(world.flows, 2 * min(turns + 1, rounds))

    def test_behind_one_round_all_homes_are_alike_and_no_note_is_left(self):
        cells = ((), FIRST, BESIDE, SECOND)
        for ours, theirs, note, other_note in itertools.product(cells, repeat=4):
            world = stand_in()
            world.kept_by["b"].keep("k", ours)
            world.kept_by["c"].keep("k", theirs)
            world.kept_by["d"].keep("k", note, place="b")
            world.kept_by["a"].keep("k", other_note, place="c")
            calm(world, 1)
            self.assertEqual(world.kept_by["b"].cell("k"), world.kept_by["c"].cell("k"))
            self.assertEqual([house.notes() for house in world.kept_by.values()], [[]] * 4)
            self.assertEqual(calm(world, 1), 0)


class Turning(Mendable):
    """Has one house, whose cell each second flow turns, so many times."""

    def __init__(self, turns):
        self.turns = turns
        self.flows = 0

    def houses(self):
        return ["a"]

    def is_away(self, name):
        return False

    def one_house(self, name):
        house = House("a")
        house.keep("k", (((min(self.flows // 2, self.turns) + 1, "a", 1), (), 5),))
        return house

    def do(self, deed):
        self.flows += deed == ("flow",)


class Arguments(Case):
    def test_by_names(self):
        world = stand_in()
        self.assertEqual(calm(rounds=1, world=world), 0)
        world.done.clear()
        give_back(house="a", world=world)
        compared(other="b", one="a", world=world)
        self.assertEqual(world.done, [("return", "a"), ("compare", "a", "b")])

    def test_none_may_be_left_out(self):
        world = stand_in()
        self.assertRaises(TypeError, calm, world)
        self.assertRaises(TypeError, give_back, world)
        self.assertRaises(TypeError, compared, world, "a")

    def test_what_is_asked_of_a_world(self):
        for call in (lambda: calm(Mendable(), 1), lambda: give_back(Mendable(), "a")):
            self.assertRaises(NotImplementedError, call)
        for call in (lambda: Mendable().is_away("a"), lambda: Mendable().one_house("a"), lambda: Mendable().do(("flow",))):
            self.assertRaises(NotImplementedError, call)


if __name__ == "__main__":
    unittest.main()
