"""[8.1], [8.2]: mending in a world; [0.2] as far as it speaks of it."""

import itertools
import unittest

from cases import Case
from heldhints.errors import Away, NoDeed, NoHouse, NoSteps
from heldhints.mending import calm, compared, give_back
from heldhints.ring import place_of
from odd import Sour, no_wholes, no_words
from worlds import HOMES, all_of_it, four, plant, under_way

A1, A2, B1 = (1, "a", 1), (2, "a", 1), (1, "b", 1)
FIRST = ((A1, (), 10),)
BESIDE = ((B1, (), 20),)
BOTH = FIRST + BESIDE
SECOND = ((A2, (A1,), 30),)


def by_deed(world, *deed):
    world.do(deed)


class Homes(Case):
    def test_as_the_tests_below_take_them(self):
        self.assertEqual({word: place_of(word) for word in HOMES}, {"k": 11, "z": 26, "ab": 7, "lc": 63})
        self.assertEqual({word: four().shape().homes(word) for word in HOMES}, HOMES)


class GivenBack(Case):
    def noted(self):
        world = four()
        for name, word, home, cell in (("a", "k", "c", FIRST), ("a", "k", "b", BOTH), ("a", "ab", "b", SECOND)):
            plant(world, name, word, cell, place=home)
        return world

    def test_each_note_by_keys_then_homes(self):
        world = self.noted()
        plant(world, "a", "lc", BESIDE)
        self.assertEqual(world.do(("return", "a")), [])
        self.assertEqual(under_way(world), [
            ("bring", None, "a", "b", "ab", SECOND, None),
            ("bring", None, "a", "b", "k", BOTH, None),
            ("bring", None, "a", "c", "k", FIRST, None)])
        self.assertEqual(world.one_house("a").notes(), [("ab", "b"), ("k", "b"), ("k", "c")])

    def test_brought_and_took(self):
        world = self.noted()
        world.do(("return", "a"))
        world.do(("give", 1))
        self.assertEqual(world.one_house("b").cell("k"), BOTH)
        self.assertEqual(world.one_house("a").note("k", "b"), BOTH)
        self.assertEqual(world.letters()[-1], (3, ("took", None, "b", "a", "k", BOTH, None)))
        world.do(("give", 3))
        self.assertEqual(world.one_house("a").notes(), [("ab", "b"), ("k", "c")])
        self.assertEqual(world.log(), [])

    def test_some_brings_lost_and_some_given_twice(self):
        world = self.noted()
        world.weave([("return", "a"), ("lose", 0), ("twice", 1), ("flow",)])
        self.assertEqual(world.one_house("a").notes(), [("ab", "b")])
        self.assertEqual(world.one_house("b").cell("k"), BOTH)
        self.assertEqual(world.one_house("c").cell("k"), FIRST)
        world.weave([("return", "a"), ("flow",)])
        self.assertEqual((world.one_house("a").notes(), world.one_house("b").cell("ab")), ([], SECOND))

    def test_what_came_to_the_note_since_stays(self):
        world = self.noted()
        world.do(("return", "a"))
        plant(world, "a", "k", BESIDE, place="c")
        world.do(("flow",))
        self.assertEqual(world.one_house("a").notes(), [("k", "c")])
        self.assertEqual(world.one_house("a").note("k", "c"), BESIDE)

    def test_no_notes(self):
        world = four()
        self.assertIs(give_back(world, "a"), None)
        self.assertEqual(world.letters(), [])

    def test_no_house_then_away(self):
        world = four()
        for thing in no_words() + ["e", "ab"]:
            self.refuses(NoHouse, give_back, world, thing, house=thing)
        world.do(("away", "b"))
        before = all_of_it(world)
        self.refuses(Away, give_back, world, "b", house="b")
        self.refuses(Away, by_deed, world, "return", "b", house="b")
        self.refuses(NoHouse, by_deed, world, "return", "e", house="e")
        self.refuses(NoDeed, by_deed, world, "return", "B", number=None)
        self.assertEqual(all_of_it(world), before)

    def test_the_function_is_the_deed(self):
        one, other = self.noted(), self.noted()
        self.assertIs(give_back(one, "a"), None)
        other.do(("return", "a"))
        self.assertEqual(all_of_it(one), all_of_it(other))


class Compared(Case):
    def shared(self, one, other, ours=(), theirs=()):
        """The cells of k and z and ab that two houses have when they are compared, and what is told."""
        world = four()
        for word, cell in ours:
            plant(world, one, word, cell)
        for word, cell in theirs:
            plant(world, other, word, cell)
        return world, world.do(("compare", one, other))

    def test_both_have_the_join(self):
        world, told = self.shared("b", "c", [("k", FIRST)], [("k", BESIDE), ("ab", SECOND)])
        # The leaves of 7 and 11 part below the fourth level: three lone ways down, then two.
        self.assertEqual(told, [("compared", "b", "c", ("ab", "k"), 1 + 2 * 3 + 4 * 3)])
        for name in ("b", "c"):
            self.assertEqual((world.one_house(name).cell("k"), world.one_house(name).cell("ab")), (BOTH, SECOND))
        self.assertEqual(world.do(("compare", "b", "c")), [("compared", "b", "c", (), 1)])
        self.assertEqual(world.do(("compare", "c", "b")), [("compared", "c", "b", (), 1)])
        self.assertEqual(len(world.log()), 3)
        self.assertEqual(world.letters(), [])

    def test_of_keys_alone_of_which_both_are_homes(self):
        world, told = self.shared("b", "c", [("lc", FIRST)], [("lc", SECOND), ("z", FIRST)])
        self.assertEqual(told, [("compared", "b", "c", (), 1)])
        self.assertEqual([world.one_house(name).cell("lc") for name in "bc"], [FIRST, SECOND])
        self.assertEqual([world.one_house(name).cell("z") for name in "bc"], [(), FIRST])

    def test_notes_stay_as_they_are(self):
        world = four()
        plant(world, "b", "k", FIRST, place="c")
        plant(world, "c", "k", BESIDE)
        self.assertEqual(world.do(("compare", "b", "c")), [("compared", "b", "c", ("k",), 13)])
        house = world.one_house("b")
        self.assertEqual((house.cell("k"), house.note("k", "c")), (BESIDE, FIRST))

    def test_like_dots_are_not_told(self):
        world, told = self.shared("b", "c", [("k", FIRST), ("ab", FIRST)], [("k", FIRST)])
        self.assertEqual(told, [("compared", "b", "c", ("ab",), 13)])

    def test_either_way_about(self):
        for one, other in (("b", "c"), ("c", "b")):
            world, told = self.shared(one, other, [("k", FIRST)], [("k", SECOND)])
            self.assertEqual(told, [("compared", one, other, ("k",), 13)])
            self.assertEqual([world.one_house(name).cell("k") for name in "bc"], [SECOND, SECOND])

    def test_houses_without_a_key_in_common(self):
        world, told = self.shared("a", "c", [("lc", FIRST)], [("z", FIRST)])
        self.assertEqual(told, [("compared", "a", "c", (), 1)])

    def test_refusals_in_their_order(self):
        world = four()
        world.weave([("away", "a"), ("away", "b")])
        before = all_of_it(world)
        for thing in no_words() + ["e"]:
            self.refuses(NoHouse, compared, world, thing, "a", house=thing)
            self.refuses(NoHouse, compared, world, "a", thing, house=thing)
            self.refuses(NoHouse, compared, world, thing, thing, house=thing)
        self.refuses(NoHouse, compared, world, "e", "f", house="e")
        for one, other, house in (("a", "c", "a"), ("c", "a", "a"), ("a", "b", "a"), ("b", "a", "b"), ("a", "a", "a")):
            self.refuses(Away, compared, world, one, other, house=house)
            self.refuses(Away, by_deed, world, "compare", one, other, house=house)
        self.refuses(NoHouse, compared, world, "c", "c", house="c")
        self.refuses(NoHouse, by_deed, world, "compare", "c", "c", house="c")
        self.refuses(NoHouse, by_deed, world, "compare", "a", "e", house="e")
        self.refuses(NoDeed, by_deed, world, "compare", "e", "E", number=None)
        self.assertEqual(all_of_it(world), before)

    def test_the_function_is_the_deed(self):
        one, other = four(), four()
        for world in (one, other):
            plant(world, "b", "k", FIRST)
        self.assertIs(compared(one, "b", "c"), None)
        other.do(("compare", "b", "c"))
        self.assertEqual(all_of_it(one), all_of_it(other))


class Steps(Case):
    def test_at_the_edges(self):
        for rounds in (1, 100):
            self.assertEqual(calm(four(), rounds), 0)
        for rounds in (0, -1, 101, 10 ** 29, True, False):
            self.refuses(NoSteps, calm, four(), rounds)

    def test_of_anything(self):
        world = four()
        plant(world, "b", "k", FIRST)
        before = all_of_it(world)
        for thing in no_wholes():
            self.refuses(NoSteps, calm, world, thing)
        self.assertEqual(all_of_it(world), before)

    def test_ahead_of_all_that_is_asked_of_the_world(self):
        for world in (None, Sour()):
            for rounds in (0, 101, True, None):
                self.refuses(NoSteps, calm, world, rounds)


class Calm(Case):
    def compares(self, world):
        return [thing[1:3] for thing in world.log()]

    def test_the_deeds_of_a_round(self):
        """As the deeds themselves, done one behind the other."""
        one, other = four(), four()
        for world in (one, other):
            plant(world, "a", "k", FIRST, place="c")
            plant(world, "d", "ab", FIRST, place="b")
            world.do(("write", "me", "a", "z", 7))
        self.assertEqual(calm(one, 1), 1)
        other.do(("flow",))
        for name in "abcd":
            other.do(("return", name))
        other.do(("flow",))
        for pair in itertools.combinations("abcd", 2):
            other.do(("compare",) + pair)
        self.assertEqual(all_of_it(one), all_of_it(other))

    def test_houses_that_are_away_take_no_part(self):
        world = four()
        world.do(("away", "b"))
        plant(world, "a", "k", FIRST, place="b")
        self.assertEqual(calm(world, 5), 0)
        self.assertEqual(self.compares(world), [("a", "c"), ("a", "d"), ("c", "d")])
        self.assertEqual(world.one_house("a").notes(), [("k", "b")])
        self.assertEqual(world.letters(), [])
        for name in "acd":
            world.do(("away", name))
        self.assertEqual(calm(world, 5), 0)
        self.assertEqual(len(world.log()), 3)

    def test_until_one_turns_nothing(self):
        for rounds in (2, 3, 100):
            world = four()
            plant(world, "b", "k", FIRST)
            self.assertEqual(calm(world, rounds), 1)
            self.assertEqual(len(world.log()), 2 * 6)
            self.assertEqual(world.one_house("c").cell("k"), FIRST)

    def test_so_many_at_most(self):
        world = four()
        plant(world, "b", "k", FIRST)
        self.assertEqual(calm(world, 1), 1)
        self.assertEqual(len(world.log()), 6)
        self.assertEqual(calm(world, 1), 0)
        self.assertEqual(len(world.log()), 2 * 6)

    def test_several_rounds_turn_something_where_known_is_cut(self):
        """Houses that cut versions come to in a second round, since an elder one was put out too early."""
        world = four(copies=3)
        homes = world.shape().homes("k")
        self.assertEqual(homes, ["b", "c", "d"])
        third = (((3, "a", 1), (A2,), 40),)
        plant(world, "b", "k", third)
        plant(world, "c", "k", FIRST)
        plant(world, "d", "k", SECOND)
        turned = calm(world, 100)
        self.assertGreaterEqual(turned, 1)
        self.assertEqual(calm(world, 1), 0)
        self.assertEqual(len({world.one_house(name).cell("k") for name in homes}), 1)

    def test_a_letter_alone_that_turns_something_counts(self):
        world = four()
        world.weave([("write", "me", "b", "k", 5)])
        self.assertEqual(calm(world, 9), 1)
        self.assertEqual(world.log()[0], ("wrote", "me", "k", B1))

    def test_a_note_alone_turned_counts(self):
        world = four()
        for name, place in (("b", None), ("c", None), ("d", "b")):
            plant(world, name, "k", FIRST, place=place)
        self.assertEqual(calm(world, 9), 1)
        self.assertEqual(world.one_house("d").notes(), [])

    def test_behind_one_round_all_homes_are_alike_and_no_note_is_left(self):
        cells = ((), FIRST, BESIDE, SECOND)
        for ours, theirs, note, other_note in itertools.product(cells, repeat=4):
            world = four()
            plant(world, "b", "k", ours)
            plant(world, "c", "k", theirs)
            plant(world, "d", "k", note, place="b")
            plant(world, "a", "k", other_note, place="c")
            calm(world, 1)
            self.assertEqual(world.one_house("b").cell("k"), world.one_house("c").cell("k"))
            self.assertEqual([world.one_house(name).notes() for name in "abcd"], [[]] * 4)
            self.assertEqual(calm(world, 1), 0)


class Arguments(Case):
    def test_by_names(self):
        world = four()
        self.assertEqual(calm(rounds=1, world=world), 0)
        give_back(house="a", world=world)
        compared(other="b", one="a", world=world)
        self.assertEqual(world.log()[-1], ("compared", "a", "b", (), 1))

    def test_none_may_be_left_out(self):
        world = four()
        self.assertRaises(TypeError, calm, world)
        self.assertRaises(TypeError, give_back, world)
        self.assertRaises(TypeError, compared, world, "a")


if __name__ == "__main__":
    unittest.main()
