"""[9.1]: time that goes by, and marks that are let go."""

import unittest

from cases import Case
from heldhints.errors import NoDeed
from worlds import four, plant, under_way

A1, B1, B2, C1 = (1, "a", 1), (1, "b", 1), (2, "b", 1), (1, "c", 1)


def mark(time, dot=A1, known=()):
    return ((dot, known, ("gone", time)),)


class Time(Case):
    def test_at_the_edges(self):
        world = four()
        for many, now in ((1, 1), (10 ** 6, 10 ** 6 + 1), (3, 10 ** 6 + 4)):
            self.assertEqual(world.do(("tick", many)), [])
            self.assertEqual(world.now(), now)
        for many in (0, -1, 10 ** 6 + 1, True, "1", None):
            self.refuses(NoDeed, world.do, ("tick", many), number=None)
        self.assertEqual(world.now(), 10 ** 6 + 4)


class Houses(Case):
    def test_just_old_enough_and_not(self):
        for keep in (1, 5, 20):
            for time in (0, 1, 7):
                world = four(keep=keep)
                plant(world, "b", "k", mark(time))
                if time + keep > 1:
                    world.do(("tick", time + keep - 1))
                    self.assertEqual(world.one_house("b").cell("k"), mark(time))
                    self.assertEqual(world.book().swept(), [])
                world.do(("tick", 1))
                self.assertEqual(world.one_house("b").cell("k"), ())
                self.assertEqual(world.book().swept(), [A1])

    def test_all_at_once(self):
        world = four(keep=5)
        plant(world, "b", "k", mark(0))
        plant(world, "b", "ab", mark(3, B1))
        world.do(("tick", 10 ** 6))
        self.assertEqual((len(world.one_house("b")), world.book().swept()), (0, [A1, B1]))

    def test_in_cells_and_notes_also_of_houses_that_are_away(self):
        world = four(keep=5)
        plant(world, "b", "k", mark(0) + ((C1, (), 7),))
        plant(world, "c", "k", mark(0))
        plant(world, "c", "k", mark(1, B1), place="b")
        plant(world, "d", "k", mark(0, B2), place="b")
        world.weave([("away", "c"), ("away", "d"), ("tick", 5)])
        self.assertEqual(world.one_house("b").cell("k"), ((C1, (), 7),))
        self.assertEqual(world.one_house("c").state(), ("c", 1, 0, (), (("k", "b", mark(1, B1)),)))
        self.assertEqual(world.one_house("d").state(), ("d", 1, 0, (), ()))
        self.assertEqual(world.book().swept(), [A1, B2])

    def test_worths_stay(self):
        world = four(keep=1, write=1)
        world.weave([("write", "me", "b", "k", 5), ("flow",), ("tick", 100)])
        self.assertEqual(world.one_house("c").cell("k"), ((B1, (), 5),))
        self.assertEqual(world.book().swept(), [])

    def test_a_mark_of_the_time_now(self):
        world = four(keep=3, write=1)
        world.weave([("tick", 10), ("gone", "me", "b", "k"), ("flow",), ("tick", 2)])
        self.assertEqual(world.one_house("c").cell("k"), mark(10, B1))
        world.do(("tick", 1))
        self.assertEqual([world.one_house(name).cell("k") for name in "bc"], [(), ()])


class Letters(Case):
    def test_keep(self):
        world = four(keep=3)
        world.weave([("gone", "me", "a", "k"), ("tick", 3)])
        self.assertEqual(world.book().swept(), [])
        # Under way it has the mark still, and has it no more as it is given.
        self.assertEqual([letter[5] for letter in under_way(world)], [mark(0), mark(0)])
        world.do(("give", 0))
        self.assertEqual((world.one_house("b").cell("k"), world.book().swept()), ((), [A1]))
        self.assertEqual(world.do(("flow",)), [("wrote", "me", "k", A1)])
        self.assertEqual(world.one_house("c").cell("k"), ())

    def test_not_old_enough(self):
        world = four(keep=3)
        world.weave([("gone", "me", "a", "k"), ("tick", 2), ("flow",)])
        self.assertEqual(world.one_house("b").cell("k"), mark(0))
        self.assertEqual(world.book().swept(), [])

    def test_said(self):
        world = four(keep=3)
        plant(world, "b", "k", mark(0) + ((C1, (), 7),))
        world.weave([("read", "me", "a", "k"), ("give", 0), ("tick", 3)])
        self.assertEqual(under_way(world)[-1][5], mark(0) + ((C1, (), 7),))
        self.assertEqual(world.do(("flow",)), [("told", "me", "k", (7,), (C1,))])
        self.assertEqual(world.book().swept(), [A1])

    def test_mend_has_old_marks_under_way_alone(self):
        world = four(keep=3)
        plant(world, "b", "k", mark(0))
        world.weave([("read", "me", "a", "k"), ("give", 0), ("give", 2), ("tick", 3), ("give", 1)])
        # The answer of b was heard ahead of the tick.
        self.assertEqual(world.do(("give", 3)), [("told", "me", "k", (), (A1,))])
        self.assertEqual(under_way(world), [("mend", 0, "a", "c", "k", mark(0), None)])
        world.do(("flow",))
        self.assertEqual(world.one_house("c").cell("k"), ())

    def test_bring_and_took(self):
        world = four(keep=3)
        note = mark(0) + ((C1, (), 7),)
        plant(world, "a", "k", note, place="b")
        world.weave([("return", "a"), ("tick", 3), ("give", 0)])
        self.assertEqual(world.one_house("b").cell("k"), ((C1, (), 7),))
        self.assertEqual(under_way(world), [("took", None, "b", "a", "k", note, None)])
        world.do(("give", 1))
        self.assertEqual(world.one_house("a").notes(), [])
        self.assertEqual(world.book().swept(), [A1])

    def test_a_letter_that_was_under_way_alone(self):
        """The mark is with no house, when the time is up: it is let go as the letter is given, also twice."""
        world = four(keep=3)
        world.weave([("gone", "me", "a", "k"), ("tick", 4), ("twice", 0)])
        self.assertEqual(world.book().swept(), [A1])
        world.do(("lose", 0))
        self.assertEqual(world.book().swept(), [A1])

    def test_lost_letters_let_nothing_go(self):
        world = four(keep=3)
        world.weave([("gone", "me", "a", "k"), ("tick", 4), ("lose", 0), ("away", "c"), ("give", 1)])
        self.assertEqual((world.book().swept(), world.letters()), ([], []))


class Kept(Case):
    def test_what_a_house_that_reads_keeps_itself(self):
        world = four(keep=3)
        plant(world, "b", "k", mark(0))
        plant(world, "c", "k", ((C1, (), 7),))
        # What b answered ahead of the tick is heard behind it.
        world.weave([("read", "me", "c", "k"), ("give", 0), ("tick", 3)])
        self.assertEqual(world.do(("give", 1)), [("told", "me", "k", (7,), (C1,))])
        self.assertEqual(world.one_house("c").cell("k"), ((C1, (), 7),))

    def test_old_marks_of_an_answer_that_was_heard_in_time(self):
        world = four(copies=3, read=3, keep=3)
        version = ((C1, (), 7),)
        plant(world, "c", "k", mark(0))
        plant(world, "d", "k", version)
        world.weave([("read", "me", "b", "k"), ("give", 0), ("give", 1), ("give", 2)])
        # b itself has nothing; c's mark was heard, and then c lost all, so that no house lets it go.
        world.weave([("lost", "c"), ("tick", 3)])
        self.assertEqual(world.do(("give", 3)), [("told", "me", "k", (7,), (A1, C1))])
        self.assertEqual(world.one_house("b").cell("k"), version)
        self.assertEqual(world.book().swept(), [])
        self.assertEqual(under_way(world), [("mend", 0, "b", "c", "k", mark(0) + version, None),
                                            ("mend", 0, "b", "d", "k", mark(0) + version, None)])
        world.do(("give", 5))
        self.assertEqual((world.one_house("d").cell("k"), world.book().swept()), (version, [A1]))


class Book(Case):
    def test_each_once_and_sorted(self):
        world = four(keep=2)
        for name in "bcd":
            plant(world, name, "k", mark(1))
        plant(world, "a", "lc", mark(0, B1))
        world.do(("tick", 2))
        self.assertEqual(world.book().swept(), [B1])
        world.do(("tick", 1))
        self.assertEqual(world.book().swept(), [A1, B1])
        plant(world, "b", "k", mark(1))
        world.do(("tick", 1))
        self.assertEqual(world.book().swept(), [A1, B1])


if __name__ == "__main__":
    unittest.main()
