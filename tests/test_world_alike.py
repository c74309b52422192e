"""[7.3]: which worlds are alike, and twins."""

import unittest

from cases import Case
from drawn import draws, drawn_steps, drawn_world
from heldhints.ring import Ring
from heldhints.world import World
from worlds import MARKS, all_of_it, four, plant

A1, C1 = (1, "a", 1), (1, "c", 1)
FIRST = ((A1, (), 10),)
BESIDE = ((C1, (), 20),)


def woven(*deeds, **parts):
    world = four(**parts)
    world.weave(list(deeds))
    return world


class Alike(Case):
    def test_new_ones(self):
        self.are_alike(four(), four())
        self.are_alike(four(), World(Ring(MARKS[::-1]), copies=2, write=2, read=2))
        self.is_like_nothing_else(four())
        self.are_unlike(four(), four().shape())

    def test_unlike_shapes(self):
        for parts in ({"copies": 3}, {"write": 1}, {"read": 1}, {"most": None}, {"most": 7}, {"keep": 21}):
            self.are_unlike(four(), four(**parts))
        self.are_unlike(four(), World(Ring(MARKS[:3] + [(51, "d")]), copies=2))
        self.are_unlike(four(), World(Ring(MARKS + [(60, "a")]), copies=2))

    def test_mending_is_none_of_the_parts(self):
        self.are_alike(four(mending=True), four(mending=False))

    def test_unlike_in_one_part(self):
        planted, noted = four(), four()
        plant(planted, "b", "k", FIRST)
        plant(noted, "b", "k", FIRST, place="c")
        write, read = ("write", "me", "b", "k", 5), ("read", "me", "a", "k")
        worlds = [
            four(), planted, noted,
            woven(("away", "a")), woven(("away", "b")), woven(("away", "a"), ("back", "a")),
            woven(("doubt", "a", "b")), woven(("doubt", "b", "a")), woven(("tick", 1)), woven(("tick", 2)),
            woven(("lost", "a")), woven(("lost", "a"), ("back", "a")),
            woven(write), woven(write, ("lose", 0)), woven(write, ("leave", "me")), woven(write, ("give", 0)),
            woven(write, ("give", 0), ("lose", 1)), woven(write, ("twice", 0)), woven(write, ("flow",)),
            woven(("write", "me", "b", "k", 6)), woven(("write", "you", "b", "k", 5)), woven(("gone", "me", "b", "k")),
            woven(read), woven(("read", "me", "b", "k")), woven(("read", "me", "a", "z")), woven(read, ("lose", 0)),
            woven(read, ("lose", 0), ("lose", 1)), woven(read, ("give", 0), ("give", 2), ("lose", 1)),
            woven(read, ("give", 1), ("give", 2), ("lose", 0)), woven(read, ("flow",)),
            woven(("come", "e", (3,)), ("go", "e")), woven(("come", "e", (3,))),
            woven(("come", "e", (3,)), ("go", "e"), ("come", "e", (3,))),
        ]
        for number, one in enumerate(worlds):
            self.are_alike(one, one.twin())
            for other in worlds[:number]:
                self.are_unlike(one, other)

    def test_letters_of_other_numbers(self):
        one, other = four(), four()
        one.weave([("write", "me", "b", "k", 5), ("write", "you", "c", "z", 6)])
        # The same asks; a letter was given twice and its answer lost, so the other one's answer has a greater number.
        other.weave([("write", "me", "b", "k", 5), ("write", "you", "c", "z", 6), ("twice", 0), ("lose", 2), ("give", 0)])
        one.do(("give", 0))
        self.assertNotEqual(one.letters(), other.letters())
        self.are_alike(one, other)

    def test_answers_in_another_order(self):
        one, other = four(copies=3, write=3), four(copies=3, write=3)
        deeds = [("write", "me", "a", "k", 5), ("give", 0), ("give", 1)]
        one.weave(deeds + [("give", 3), ("give", 4)])
        other.weave(deeds + [("give", 4), ("give", 3)])
        self.assertNotEqual(one.own_asks[0].own_ask.held(), other.own_asks[0].own_ask.held())
        self.are_alike(one, other)

    def test_what_was_told_is_a_part(self):
        one, other = four(read=1, mending=False), four(read=1, mending=False)
        for world in (one, other):
            plant(world, "b", "k", FIRST)
            plant(world, "c", "k", BESIDE)
        deeds = [("read", "me", "a", "k"), ("give", 0), ("give", 1)]
        one.weave(deeds + [("leave", "me"), ("give", 2), ("give", 3)])
        other.weave(deeds + [("leave", "me"), ("give", 3), ("give", 2)])
        self.assertEqual([world.own_asks[0].own_ask.cell() for world in (one, other)], [FIRST + BESIDE] * 2)
        self.assertEqual(one.asker_twin("me"), other.asker_twin("me"))
        self.are_unlike(one, other)

    def test_what_answers_come_to_joined_is_a_part(self):
        """Cut versions may be joined otherwise in another order."""
        cut_one = (((3, "a", 1), ((2, "a", 1),), 40),)
        second = (((2, "a", 1), (A1,), 30),)
        worlds = []
        for order in ((3, 4, 5), (3, 5, 4)):
            world = four(copies=3, read=3, mending=False)
            for name, cell in (("b", second), ("c", cut_one), ("d", FIRST)):
                plant(world, name, "k", cell)
            world.weave([("read", "me", "a", "k"), ("give", 0), ("give", 1), ("give", 2), ("leave", "me")])
            world.weave([("give", number) for number in order])
            worlds.append(world)
        self.assertEqual([world.own_asks[0].own_ask.cell() for world in worlds], [FIRST + cut_one, cut_one])
        self.are_unlike(*worlds)

    def test_log_and_book_are_none_of_the_parts(self):
        one, other = four(), four()
        one.do(("compare", "a", "b"))
        self.are_alike(one, other)
        self.assertNotEqual(one.log(), other.log())

    def test_lives_of_houses_that_went(self):
        one = woven(("come", "e", (3,)), ("go", "e"))
        self.are_unlike(one, four())
        two = woven(("come", "e", (3,)), ("go", "e"), ("come", "e", (3,)), ("go", "e"))
        self.are_unlike(one, two)
        self.are_alike(one, woven(("come", "e", (9,)), ("go", "e")))
        self.are_unlike(one, woven(("come", "f", (3,)), ("go", "f")))


    def test_the_order_in_which_houses_went_away_or_for_good_is_no_part(self):
        self.are_alike(woven(("away", "a"), ("away", "b")), woven(("away", "b"), ("away", "a")))
        both = (("come", "e", (3,)), ("come", "f", (9,)))
        self.are_alike(woven(*both, ("go", "e"), ("go", "f")), woven(*both, ("go", "f"), ("go", "e")))
        self.are_alike(woven(*both), woven(*both[::-1]))


class Twins(Case):
    def test_go_on_by_themselves(self):
        for draw in draws(40, "twins"):
            world = drawn_world(draw)
            for deed, told in drawn_steps(draw, world, 40):
                pass
            twin = world.twin()
            before = all_of_it(world)
            self.are_alike(world, twin)
            self.assertEqual(all_of_it(twin), before)
            deeds = [deed for deed, told in drawn_steps(draw, twin, 40)]
            self.assertEqual(all_of_it(world), before)
            after = all_of_it(twin)
            world.weave(deeds)
            self.assertEqual((all_of_it(world), all_of_it(twin)), (after, after))
            self.assertEqual(len(world), len(world.letters()))

    def test_of_a_world_without_mending(self):
        world = four(mending=False).twin()
        plant(world, "b", "k", FIRST)
        world.weave([("read", "me", "c", "k"), ("flow",)])
        self.assertEqual(world.one_house("c").cell("k"), ())


class Told(Case):
    def test_letters_log_and_time(self):
        world = four()
        world.weave([("write", "me", "b", "k", 5), ("tick", 3), ("flow",), ("tick", 4), ("compare", "b", "c"), ("read", "me", "a", "z")])
        self.assertEqual(world.now(), 7)
        self.assertEqual(world.log(), [("wrote", "me", "k", (1, "b", 1)), ("compared", "b", "c", (), 1)])
        self.assertEqual([number for number, letter in world.letters()], [2, 3])
        self.assertEqual((len(world), world.asked()), (2, [("me", 1)]))


if __name__ == "__main__":
    unittest.main()
