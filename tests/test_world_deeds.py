"""[7.2]: each deed, what it changes and what is told of it."""

import unittest

from cases import Case
from heldhints.errors import Busy, NoLetter
from heldhints.house import House
from heldhints.news import News
from worlds import all_of_it, four, plant, under_way

A1, B1, B2, C1, D1 = (1, "a", 1), (1, "b", 1), (2, "b", 1), (1, "c", 1), (1, "d", 1)


class Writes(Case):
    def test_the_house_itself_is_a_target(self):
        world = four()
        self.assertEqual(world.do(("write", "me", "b", "k", 5)), [])
        version = (B1, (), 5)
        self.assertEqual(world.letters(), [(0, ("keep", 0, "b", "c", "k", (version,), None))])
        self.assertEqual(world.one_house("b").state(), ("b", 1, 1, (("k", (version,)),), ()))
        self.assertEqual(world.asked(), [("me", 0)])
        self.assertEqual(world.do(("give", 0)), [])
        self.assertEqual(world.one_house("c").cell("k"), (version,))
        self.assertEqual(world.letters(), [(1, ("kept", 0, "c", "b", "k", (), None))])
        self.assertEqual(world.do(("give", 1)), [("wrote", "me", "k", B1)])
        self.assertEqual((world.letters(), world.asked()), ([], []))
        self.assertEqual(world.asker_twin("me").tellings(), [(0, "k", None)])
        self.assertEqual(world.asker_twin("me").known("k"), (B1,))
        self.assertEqual(world.log(), [("wrote", "me", "k", B1)])

    def test_the_house_itself_is_none(self):
        world = four()
        self.assertEqual(world.do(("write", "me", "a", "k", 5)), [])
        cell = ((A1, (), 5),)
        self.assertEqual(under_way(world), [("keep", 0, "a", "b", "k", cell, None), ("keep", 0, "a", "c", "k", cell, None)])
        self.assertEqual(world.one_house("a").state(), ("a", 1, 1, (), ()))
        self.assertEqual(world.do(("flow",)), [("wrote", "me", "k", A1)])

    def test_told_as_it_asks(self):
        world = four(write=1)
        self.assertEqual(world.do(("write", "me", "c", "k", -7)), [("wrote", "me", "k", C1)])
        self.assertEqual(world.asked(), [])
        self.assertEqual(under_way(world), [("keep", 0, "c", "b", "k", ((C1, (), -7),), None)])
        self.assertEqual(world.do(("flow",)), [])
        self.assertEqual(world.one_house("b").cell("k"), ((C1, (), -7),))

    def test_one_copy_alone(self):
        world = four(copies=1, write=1, read=1)
        self.assertEqual(world.do(("write", "me", "b", "k", 5)), [("wrote", "me", "k", B1)])
        self.assertEqual(world.do(("read", "me", "b", "k")), [("told", "me", "k", (5,), (B1,))])
        self.assertEqual(world.letters(), [])

    def test_dots_by_what_the_asker_knows(self):
        world = four(write=1)
        world.weave([("write", "me", "b", "k", 5), ("write", "me", "c", "k", 6), ("write", "you", "b", "k", 7)])
        self.assertEqual([version for version in world.book().versions("k")],
                         [(B1, (), 5), (B2, (), 7), ((2, "c", 1), (B1,), 6)])
        # What it knows of one key is nothing for another one.
        world.do(("write", "me", "d", "z", 8))
        self.assertEqual(world.book().versions("z"), [(D1, (), 8)])

    def test_known_is_cut(self):
        world = four(write=1, most=1)
        for house in ("b", "c", "b", "c"):
            world.weave([("write", "me", house, "k", 5), ("flow",)])
        known = [version[1] for version in world.book().versions("k")]
        self.assertEqual(known, [(), ((1, "b", 1),), ((2, "c", 1),), ((3, "b", 1),)])
        self.assertEqual(len(world.asker_twin("me").known("k")), 4)

    def test_one_answer_lost(self):
        world = four()
        world.weave([("write", "me", "a", "k", 5), ("give", 0), ("give", 1), ("lose", 2)])
        self.assertEqual(world.do(("give", 3)), [])
        self.assertEqual(world.asked(), [("me", 0)])
        self.assertEqual((world.letters(), world.log()), ([], []))

    def test_one_answer_given_twice(self):
        world = four()
        world.weave([("write", "me", "a", "k", 5), ("give", 0)])
        self.assertEqual([world.do(("twice", 2)), world.do(("twice", 2))], [[], []])
        self.assertEqual(world.asked(), [("me", 0)])
        world.do(("give", 1))
        self.assertEqual(world.do(("give", 3)), [("wrote", "me", "k", A1)])
        self.assertEqual(world.do(("give", 2)), [])

    def test_a_stand_in_keeps_a_note(self):
        world = four()
        world.weave([("doubt", "a", "b"), ("write", "me", "a", "k", 5)])
        cell = ((A1, (), 5),)
        self.assertEqual(under_way(world), [("keep", 0, "a", "d", "k", cell, "b"), ("keep", 0, "a", "c", "k", cell, None)])
        self.assertEqual(world.do(("flow",)), [("wrote", "me", "k", A1)])
        self.assertEqual(world.one_house("d").state(), ("d", 1, 0, (), (("k", "b", cell),)))
        self.assertEqual(world.one_house("b").cell("k"), ())

    def test_the_house_itself_stands_in(self):
        world = four(write=1)
        world.weave([("doubt", "d", "b"), ("doubt", "d", "c")])
        cell = ((D1, (), 5),)
        self.assertEqual(world.do(("write", "me", "d", "k", 5)), [("wrote", "me", "k", D1)])
        self.assertEqual(world.one_house("d").state(), ("d", 1, 1, (), (("k", "b", cell),)))
        self.assertEqual(under_way(world), [("keep", 0, "d", "a", "k", cell, "c")])

    def test_fewer_targets_than_must_answer(self):
        world = four()
        world.weave([("doubt", "b", name) for name in "acd"])
        self.assertEqual(world.do(("write", "me", "b", "k", 5)), [])
        self.assertEqual((world.letters(), world.do(("flow",))), ([], []))
        self.assertEqual(world.asked(), [("me", 0)])

    def test_gone_leaves_the_mark_of_the_time_now(self):
        world = four(write=1)
        world.weave([("write", "me", "b", "k", 5), ("tick", 3)])
        self.assertEqual(world.do(("gone", "me", "b", "k")), [("wrote", "me", "k", B2)])
        self.assertEqual(world.one_house("b").cell("k"), ((B2, (B1,), ("gone", 3)),))
        world.do(("flow",))
        self.assertEqual(world.do(("read", "you", "b", "k")), [])
        self.assertEqual(world.do(("flow",)), [("told", "you", "k", (), (B1, B2))])


class Reads(Case):
    def test_the_house_itself_is_a_target(self):
        world = four(write=1)
        world.weave([("write", "me", "b", "k", 5), ("flow",)])
        self.assertEqual(world.do(("read", "you", "b", "k")), [])
        self.assertEqual(world.letters(), [(2, ("tell", 1, "b", "c", "k", (), None))])
        self.assertEqual(world.do(("give", 2)), [])
        self.assertEqual(world.letters(), [(3, ("said", 1, "c", "b", "k", ((B1, (), 5),), None))])
        self.assertEqual(world.do(("give", 3)), [("told", "you", "k", (5,), (B1,))])
        self.assertEqual(world.asker_twin("you").tellings(), [(1, "k", (5,))])
        self.assertEqual(world.asker_twin("you").known("k"), (B1,))
        self.assertEqual(world.letters(), [])

    def test_the_house_itself_is_none(self):
        world = four()
        world.do(("read", "you", "d", "k"))
        self.assertEqual(under_way(world), [("tell", 0, "d", "b", "k", (), None), ("tell", 0, "d", "c", "k", (), None)])
        self.assertEqual(world.do(("flow",)), [("told", "you", "k", (), ())])

    def test_told_as_it_asks(self):
        world = four(read=1)
        plant(world, "b", "k", ((A1, (), 5),))
        self.assertEqual(world.do(("read", "you", "b", "k")), [("told", "you", "k", (5,), (A1,))])
        self.assertEqual(world.asked(), [])
        self.assertEqual(under_way(world), [("tell", 0, "b", "c", "k", (), None)])

    def test_with_notes_joined(self):
        world = four(read=1)
        plant(world, "b", "k", ((A1, (), 5),))
        plant(world, "b", "k", ((C1, (), 6),), place="c")
        plant(world, "b", "z", ((D1, (), 7),), place="c")
        self.assertEqual(world.do(("read", "you", "b", "k")), [("told", "you", "k", (5, 6), (A1, C1))])

    def test_a_stand_in_is_asked_for_a_home(self):
        world = four()
        world.weave([("doubt", "a", "c"), ("read", "you", "a", "k")])
        self.assertEqual(under_way(world), [("tell", 0, "a", "b", "k", (), None), ("tell", 0, "a", "d", "k", (), "c")])
        plant(world, "d", "k", ((A1, (), 5),), place="c")
        world.do(("give", 1))
        self.assertEqual(under_way(world)[-1], ("said", 0, "d", "a", "k", ((A1, (), 5),), None))
        self.assertEqual(world.do(("flow",)), [("told", "you", "k", (5,), (A1,))])

    def test_targets_by_the_news_of_the_house_that_is_asked(self):
        world = four()
        world.weave([("doubt", "a", "b"), ("away", "c")])
        world.do(("read", "me", "d", "k"))
        world.do(("read", "you", "a", "k"))
        self.assertEqual([letter[2:4] for letter in under_way(world)], [("d", "b"), ("d", "c"), ("a", "d"), ("a", "c")])


class Asks(Case):
    def test_numbered_as_they_begin(self):
        world = four()
        world.weave([("write", "you", "a", "k", 5), ("read", "me", "b", "z"), ("gone", "we", "c", "k")])
        self.assertEqual(world.asked(), [("me", 1), ("we", 2), ("you", 0)])
        self.assertEqual([letter[:2] for letter in under_way(world)],
                         [("keep", 0), ("keep", 0), ("tell", 1), ("tell", 1), ("keep", 2)])
        self.refuses(Busy, world.do, ("write", "we", "a", "k", 5), what="we")

    def test_an_asker_asks_again_when_it_was_answered(self):
        world = four(write=1)
        world.weave([("write", "me", "b", "k", 5)] * 3)
        self.assertEqual(world.asker_twin("me").tellings(), [(0, "k", None), (1, "k", None), (2, "k", None)])
        self.assertEqual(world.one_house("b").cell("k"), (((3, "b", 1), (B1, B2), 5),))

    def test_leave(self):
        world = four()
        world.do(("write", "me", "b", "k", 5))
        self.assertEqual(world.do(("leave", "me")), [])
        self.assertEqual(world.asked(), [])
        # The writing goes on, but nobody hears of it.
        self.assertEqual(world.do(("flow",)), [])
        self.assertEqual(world.one_house("c").cell("k"), ((B1, (), 5),))
        self.assertEqual(world.book().told(), [(B1, "k", ("b", "c"), 0)])
        self.assertEqual((world.asker_twin("me").tellings(), world.asker_twin("me").known("k")), ([], ()))
        self.assertEqual(world.log(), [])

    def test_answers_of_one_ask_are_not_heard_as_those_of_another_one(self):
        world = four()
        world.weave([("write", "me", "b", "k", 5), ("leave", "me"), ("write", "me", "b", "z", 6)])
        self.assertEqual(world.weave([("give", 0), ("give", 3)]), [[], []])
        self.assertEqual(world.asked(), [("me", 1)])
        self.assertEqual(world.do(("flow",)), [("wrote", "me", "z", B2)])


class Letters(Case):
    def test_given_letters_are_no_more(self):
        world = four()
        world.do(("write", "me", "a", "k", 5))
        world.do(("give", 1))
        self.assertEqual([number for number, letter in world.letters()], [0, 2])
        for word in ("give", "twice", "lose"):
            self.refuses(NoLetter, world.do, (word, 1), number=1)
            self.refuses(NoLetter, world.do, (word, 3), number=3)
        self.assertEqual(len(world), 2)

    def test_twice_stays(self):
        world = four()
        world.do(("write", "me", "a", "k", 5))
        world.weave([("twice", 0), ("twice", 0)])
        self.assertEqual([(number, letter[0]) for number, letter in world.letters()],
                         [(0, "keep"), (1, "keep"), (2, "kept"), (3, "kept")])
        self.assertEqual(world.one_house("b").cell("k"), ((A1, (), 5),))

    def test_lost_ones_come_to_nothing(self):
        world = four()
        world.weave([("write", "me", "a", "k", 5), ("lose", 0)])
        self.assertEqual([number for number, letter in world.letters()], [1])
        world.do(("flow",))
        self.assertEqual((world.one_house("b").cell("k"), world.log()), ((), []))

    def test_flow_with_letters_that_come_of_it(self):
        one, other = four(), four()
        deeds = [("write", "me", "a", "k", 5), ("write", "you", "d", "k", 6), ("read", "we", "b", "z")]
        one.weave(deeds)
        other.weave(deeds)
        told = one.do(("flow",))
        self.assertEqual(told, [("wrote", "me", "k", A1), ("wrote", "you", "k", D1), ("told", "we", "z", (), ())])
        while other.letters():
            other.do(("give", other.letters()[0][0]))
        self.assertEqual(all_of_it(one), all_of_it(other))
        self.assertEqual(four().do(("flow",)), [])


class Houses(Case):
    def test_away_and_back(self):
        world = four()
        plant(world, "b", "k", ((A1, (), 5),))
        self.assertEqual(world.do(("away", "b")), [])
        self.assertEqual([world.is_away(name) for name in "abcd"], [False, True, False, False])
        self.assertEqual(world.thoughts("b").entry("b"), (0, False))
        self.assertEqual(world.do(("back", "b")), [])
        self.assertIs(world.is_away("b"), False)
        self.assertEqual(world.thoughts("b").entry("b"), (1, False))
        self.assertEqual(world.one_house("b").cell("k"), ((A1, (), 5),))
        # The others hear of it by news alone.
        self.assertEqual(world.thoughts("a").entry("b"), (0, False))

    def test_lost(self):
        world = four(write=1)
        world.weave([("write", "me", "b", "k", 5), ("doubt", "b", "c"), ("away", "b"), ("back", "b")])
        for life in (2, 3):
            self.assertEqual(world.do(("lost", "b")), [])
            self.assertIs(world.is_away("b"), True)
            self.are_alike(world.one_house("b"), House("b", life))
            self.are_alike(world.thoughts("b"), News("b", list("abcd")))
            self.assertEqual(world.book().losses(), life - 1)
        world.do(("back", "b"))
        self.assertEqual(world.thoughts("b").entry("b"), (1, False))
        self.assertEqual(world.do(("write", "you", "b", "k", 6)), [("wrote", "you", "k", (1, "b", 3))])

    def test_doubt_and_news(self):
        world = four()
        self.assertEqual(world.do(("doubt", "a", "b")), [])
        self.assertEqual(world.thoughts("a").entries(), {"a": (0, False), "b": (0, True), "c": (0, False), "d": (0, False)})
        self.assertIs(world.thoughts("c").here("b"), True)
        self.assertEqual(world.do(("news", "a", "c")), [])
        self.assertIs(world.thoughts("c").here("b"), False)
        self.assertIs(world.thoughts("d").here("b"), True)
        # One that hears that it is away knows better, and tells it on.
        world.do(("news", "c", "b"))
        self.assertEqual(world.thoughts("b").entry("b"), (1, False))
        world.do(("news", "b", "a"))
        self.assertEqual(world.thoughts("a").entry("b"), (1, False))
        before = world.twin()
        world.do(("news", "a", "a"))
        self.are_alike(world, before)

    def test_doubt_of_one_that_is_away(self):
        world = four()
        world.weave([("away", "b"), ("doubt", "a", "b"), ("doubt", "a", "b")])
        self.assertEqual(world.thoughts("a").entry("b"), (0, True))


if __name__ == "__main__":
    unittest.main()
