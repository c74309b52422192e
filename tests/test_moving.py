"""[10.1], [10.2]: houses that come, and go; [0.2] as far as it speaks of them."""

import unittest

from cases import Case
from heldhints.errors import Busy, NoDeed, NoHouse, NoRing, NoShape
from heldhints.house import House
from heldhints.moving import come_in, go_out
from heldhints.news import News
from heldhints.ring import Ring
from heldhints.world import World
from odd import no_words
from worlds import MARKS, all_of_it, four, plant

A1, A2, B1, C1 = (1, "a", 1), (2, "a", 1), (1, "b", 1), (1, "c", 1)
FIRST = ((A1, (), 10),)
BESIDE = ((B1, (), 20),)
BOTH = FIRST + BESIDE
SECOND = ((A2, (A1,), 30),)
THIRD = ((C1, (), 40),)


def cells(world, word):
    """The cells of a key by houses that have one."""
    found = {name: world.one_house(name).cell(word) for name in world.houses()}
    return {name: found[name] for name in found if found[name]}


class Comes(Case):
    def test_keys_whose_homes_turn_and_whose_do_not(self):
        world = four()
        # The homes of k (11) and of ab (7) are b and c, of z (26) c and d, of lc (63) a and b.
        for name, word, cell in (("b", "k", FIRST), ("c", "k", SECOND), ("c", "z", FIRST), ("d", "z", FIRST),
                                 ("c", "ab", BESIDE), ("a", "lc", FIRST), ("b", "lc", BOTH)):
            plant(world, name, word, cell)
        self.assertEqual(world.do(("come", "e", (15,))), [("came", "e", ("ab", "k", "lc"))])
        # Of k and ab the home c goes out, of lc b, and e comes in; z is left alone.
        self.assertEqual(cells(world, "k"), {"b": FIRST, "e": SECOND})
        self.assertEqual(cells(world, "ab"), {"e": BESIDE})
        self.assertEqual(cells(world, "lc"), {"a": FIRST, "e": BOTH})
        self.assertEqual(cells(world, "z"), {"c": FIRST, "d": FIRST})
        self.assertEqual(world.houses(), list("abcde"))
        self.assertEqual(world.shape().ring().marks(), sorted(MARKS + [(15, "e")]))
        self.assertEqual(world.log(), [("came", "e", ("ab", "k", "lc"))])

    def test_a_key_of_which_the_one_that_goes_out_has_nothing(self):
        world = four()
        plant(world, "b", "k", FIRST)
        self.assertEqual(world.do(("come", "e", (15,))), [("came", "e", ("k",))])
        self.assertEqual(cells(world, "k"), {"b": FIRST})

    def test_no_keys(self):
        self.assertEqual(four().do(("come", "e", (15, 3))), [("came", "e", ())])

    def test_several_places(self):
        world = four()
        plant(world, "d", "z", FIRST)
        plant(world, "b", "lc", FIRST)
        self.assertEqual(world.do(("come", "e", (63, 45))), [("came", "e", ("lc", "z"))])
        self.assertEqual((cells(world, "z"), cells(world, "lc")), ({"e": FIRST}, {"e": FIRST}))

    def test_notes_are_joined_first(self):
        world = four()
        plant(world, "b", "k", FIRST)
        plant(world, "c", "k", FIRST)
        plant(world, "a", "k", SECOND, place="c")
        plant(world, "d", "k", BESIDE, place="c")
        plant(world, "d", "lc", THIRD, place="a")
        self.assertEqual(world.do(("come", "e", (15,))), [("came", "e", ("k", "lc"))])
        self.assertEqual(cells(world, "k"), {"b": FIRST, "e": BESIDE + SECOND})
        self.assertEqual(cells(world, "lc"), {"a": THIRD})
        self.assertEqual([world.one_house(name).notes() for name in "abcde"], [[]] * 5)

    def test_notes_are_joined_one_behind_the_other(self):
        """By houses, sorted: cut versions come to another cell in another order."""
        cut_one = (((3, "a", 1), (A2,), 40),)
        world = four()
        plant(world, "a", "k", cut_one, place="b")
        plant(world, "b", "k", SECOND)
        plant(world, "d", "k", FIRST, place="b")
        world.do(("come", "e", (45,)))
        self.assertEqual(cells(world, "k"), {"b": FIRST + cut_one})

    def test_the_others_come_to_know_of_it(self):
        world = four()
        world.weave([("doubt", "a", "b"), ("away", "c"), ("back", "c"), ("come", "e", (15,))])
        self.are_alike(world.one_house("e"), House("e"))
        self.are_alike(world.thoughts("e"), News("e", list("abcde")))
        self.assertEqual(world.thoughts("a").entries(),
                         {"a": (0, False), "b": (0, True), "c": (0, False), "d": (0, False), "e": (0, False)})
        self.assertEqual(world.thoughts("c").entry("c"), (1, False))
        for name in "abcd":
            self.assertEqual(world.thoughts(name).entry("e"), (0, False))
        self.assertIs(world.is_away("e"), False)

    def test_the_world_goes_on_with_it(self):
        world = four()
        world.do(("come", "e", (15,)))
        self.assertEqual(world.weave([("write", "me", "e", "k", 5), ("flow",)])[1], [("wrote", "me", "k", (1, "e", 1))])
        self.assertEqual(list(cells(world, "k")), ["b", "e"])


class Goes(Case):
    def test_keys_whose_homes_turn_and_whose_do_not(self):
        world = four()
        for name, word, cell in (("b", "k", FIRST), ("c", "k", BESIDE), ("c", "z", FIRST), ("d", "z", FIRST), ("b", "lc", BOTH)):
            plant(world, name, word, cell)
        self.assertEqual(world.do(("go", "b")), [("went", "b", ("k", "lc"))])
        # Of k d comes in, of lc c.
        self.assertEqual(cells(world, "k"), {"c": BESIDE, "d": FIRST})
        self.assertEqual(cells(world, "lc"), {"c": BOTH})
        self.assertEqual(cells(world, "z"), {"c": FIRST, "d": FIRST})
        self.assertEqual(world.houses(), list("acd"))
        self.assertEqual(world.shape().ring().marks(), [mark for mark in MARKS if mark[1] != "b"])
        self.refuses(NoHouse, world.one_house, "b", house="b")
        self.refuses(NoHouse, world.do, ("away", "b"), house="b")

    def test_notes_are_joined_first(self):
        world = four()
        plant(world, "b", "z", FIRST, place="c")
        plant(world, "a", "k", BESIDE, place="b")
        self.assertEqual(world.do(("go", "b")), [("went", "b", ("k",))])
        self.assertEqual((cells(world, "z"), cells(world, "k")), ({"c": FIRST}, {"d": BESIDE}))
        self.assertEqual([world.one_house(name).notes() for name in "acd"], [[]] * 3)

    def test_the_others_know_it_no_more(self):
        world = four()
        world.weave([("doubt", "a", "b"), ("doubt", "a", "c"), ("go", "b")])
        self.assertEqual(world.thoughts("a").entries(), {"a": (0, False), "c": (0, True), "d": (0, False)})
        for name in "acd":
            self.assertNotIn("b", world.thoughts(name).entries())

    def test_a_house_that_comes_anew_has_the_next_life(self):
        world = four()
        world.do(("doubt", "a", "b"))
        for life in (2, 3):
            world.weave([("go", "b"), ("come", "b", (20,))])
            self.are_alike(world.one_house("b"), House("b", life))
            self.are_alike(world.thoughts("b"), News("b", list("abcd")))
            self.assertEqual(world.thoughts("a").entry("b"), (0, False))
        world.weave([("lost", "b"), ("back", "b"), ("go", "b"), ("come", "b", (20,))])
        self.assertEqual(world.one_house("b").life(), 5)
        self.assertEqual(world.weave([("write", "me", "b", "k", 5), ("flow",)])[1], [("wrote", "me", "k", (1, "b", 5))])

    def test_houses_are_told_sorted_all_the_same(self):
        world = four()
        world.weave([("go", "b"), ("come", "b", (20,)), ("come", "aa", (21,))])
        self.assertEqual(world.houses(), ["a", "aa", "b", "c", "d"])

    def test_what_it_wrote_keeps_its_dot(self):
        world = four(write=1)
        world.weave([("write", "me", "b", "k", 5), ("flow",), ("go", "b"), ("come", "b", (20,))])
        self.assertEqual(cells(world, "k"), {"b": ((B1, (), 5),), "c": ((B1, (), 5),)})
        self.assertEqual(world.do(("write", "you", "b", "k", 6)), [("wrote", "you", "k", (1, "b", 2))])


class Refused(Case):
    def refused_both(self, world, refusal, come, go, **fields):
        """Both by the deed and by the function; nothing is changed."""
        before = all_of_it(world)
        if come is not None:
            self.refuses(refusal, world.do, ("come",) + come, **fields)
            self.refuses(refusal, come_in, world, *come, **fields)
        if go is not None:
            self.refuses(refusal, world.do, ("go", go), **fields)
            self.refuses(refusal, go_out, world, go, **fields)
        self.assertEqual(all_of_it(world), before)

    def test_busy_by_each_cause_and_by_several(self):
        away, letter, ask = ("away", "d"), ("return", "a"), ("read", "me", "b", "k")
        for deeds, what in (([away], "away"), ([letter], "letter"), ([ask, ("lose", 0)], "ask"), ([away, letter], "away"),
                            ([letter, away], "away"), ([ask], "letter"), ([ask, ("lose", 0), away], "away"),
                            ([ask, letter, away], "away")):
            world = four()
            plant(world, "a", "k", FIRST, place="b")
            world.weave(deeds)
            # Ahead of a house that is there, that isn't, and of too many marks.
            for come in (("e", (5,)), ("a", (5,)), ("e", tuple(range(60)))):
                self.refused_both(world, Busy, come, None, what=what)
            for go in ("a", "x"):
                self.refused_both(world, Busy, None, go, what=what)

    def test_an_ask_that_its_asker_left_is_not_open(self):
        world = four()
        world.weave([("read", "me", "b", "k"), ("lose", 0)])
        self.refused_both(world, Busy, ("e", (5,)), "a", what="ask")
        world.do(("leave", "me"))
        self.assertEqual(world.do(("come", "e", (5,))), [("came", "e", ())])

    def test_a_house_that_is_there_or_is_not(self):
        world = four()
        for name in "abcd":
            self.refused_both(world, NoHouse, (name, (5,)), None, house=name)
            self.refused_both(world, NoHouse, (name, tuple(range(60))), None, house=name)
        for name in ("e", "x"):
            self.refused_both(world, NoHouse, None, name, house=name)

    def test_too_many_marks(self):
        world = four()
        self.refused_both(world, NoRing, ("e", tuple(range(45))), None, number=None)
        self.assertEqual(world.do(("come", "e", tuple(range(44)))), [("came", "e", ())])
        self.refused_both(world, NoRing, ("f", (50,)), None, number=None)
        self.assertEqual(world.do(("go", "e")), [("went", "e", ())])

    def test_the_last_house(self):
        world = World(Ring([(5, "a")]), copies=1, write=1, read=1)
        self.refused_both(world, NoRing, None, "a", number=None)
        self.refused_both(world, NoHouse, None, "b", house="b")

    def test_fewer_houses_than_copies(self):
        world = four(copies=4)
        self.refused_both(world, NoShape, None, "a", what="copies")
        world.do(("come", "e", (5,)))
        self.assertEqual(world.do(("go", "a")), [("went", "a", ())])
        self.refused_both(world, NoShape, None, "b", what="copies")

    def test_forms_ahead_of_all(self):
        world = four()
        world.do(("away", "a"))
        for deed in (("come", "e", ()), ("come", "E", (5,)), ("come", "e", [5]), ("go", "E"), ("go",)):
            self.refuses(NoDeed, world.do, deed, number=None)

    def test_the_functions_of_things_of_many_kinds(self):
        world = four()
        before = all_of_it(world)
        for thing in no_words():
            self.refuses(NoHouse, come_in, world, thing, (5,), house=thing)
            self.refuses(NoHouse, go_out, world, thing, house=thing)
        for places, number in ((None, None), ((), None), ((5, 64), 1), ((5, 6, 5), 2), ((True,), 0)):
            self.refuses(NoRing, come_in, world, "e", places, number=number)
        self.assertEqual(all_of_it(world), before)


class Functions(Case):
    def test_they_are_the_deeds(self):
        one, other = four(), four()
        for world in (one, other):
            plant(world, "b", "k", FIRST)
        self.assertIs(come_in(one, "e", (15,)), None)
        self.assertIs(go_out(one, "b"), None)
        other.weave([("come", "e", (15,)), ("go", "b")])
        self.assertEqual(all_of_it(one), all_of_it(other))
        self.assertEqual(one.log(), [("came", "e", ("k",)), ("went", "b", ("k",))])

    def test_by_names(self):
        world = four()
        come_in(places=(15,), house="e", world=world)
        go_out(house="a", world=world)
        self.assertEqual(world.houses(), list("bcde"))
        self.assertRaises(TypeError, come_in, world, "f")
        self.assertRaises(TypeError, go_out, world)

    def test_a_list_of_places_stays_and_is_not_kept(self):
        world, places = four(), [15, 3]
        come_in(world, "e", places)
        self.assertEqual(places, [15, 3])
        places.clear()
        self.assertEqual(world.shape().ring().marks(), sorted(MARKS + [(15, "e"), (3, "e")]))


if __name__ == "__main__":
    unittest.main()
