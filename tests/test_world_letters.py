"""[7.3]: what comes of each letter, of houses that are away, and of asks whose house lost all."""

import unittest

from cases import Case
from worlds import four, plant, under_way

A1, A2, B1, C1, D1 = (1, "a", 1), (2, "a", 1), (1, "b", 1), (1, "c", 1), (1, "d", 1)
FIRST = ((A1, (), 10),)
BESIDE = ((C1, (), 20),)
BOTH = FIRST + BESIDE
SECOND = ((A2, (A1,), 30),)


class Given(Case):
    def test_keep(self):
        world = four()
        plant(world, "b", "k", BESIDE)
        world.weave([("write", "me", "a", "k", 10), ("give", 0)])
        self.assertEqual(world.one_house("b").cell("k"), BOTH)
        self.assertEqual(world.letters()[-1], (2, ("kept", 0, "b", "a", "k", (), None)))

    def test_keep_as_a_note(self):
        world = four()
        plant(world, "d", "k", BESIDE, place="b")
        world.weave([("doubt", "a", "b"), ("write", "me", "a", "k", 10), ("give", 0)])
        self.assertEqual(world.one_house("d").state(), ("d", 1, 0, (), (("k", "b", BOTH),)))
        self.assertEqual(world.letters()[-1], (2, ("kept", 0, "d", "a", "k", (), None)))

    def test_tell_and_said(self):
        world = four()
        plant(world, "b", "k", FIRST)
        plant(world, "b", "k", BESIDE, place="c")
        world.weave([("read", "me", "a", "k"), ("give", 0)])
        self.assertEqual(world.letters()[-1], (2, ("said", 0, "b", "a", "k", BOTH, None)))

    def test_said_as_it_was_when_it_was_sent(self):
        world = four()
        world.weave([("read", "me", "a", "k"), ("give", 0)])
        plant(world, "b", "k", FIRST)
        world.do(("give", 1))
        self.assertEqual(world.do(("flow",)), [("told", "me", "k", (), ())])

    def test_mend(self):
        world = four()
        plant(world, "b", "k", FIRST)
        plant(world, "c", "k", BESIDE)
        world.weave([("read", "me", "a", "k"), ("give", 1), ("give", 2), ("give", 0)])
        self.assertEqual(world.do(("give", 3)), [("told", "me", "k", (10, 20), (A1, C1))])
        # In the order of their answers.
        self.assertEqual(world.letters(), [(4, ("mend", 0, "a", "c", "k", BOTH, None)), (5, ("mend", 0, "a", "b", "k", BOTH, None))])
        self.assertEqual(world.do(("flow",)), [])
        self.assertEqual([world.one_house(name).cell("k") for name in "abc"], [(), BOTH, BOTH])
        self.assertEqual(world.letters(), [])

    def test_mend_of_a_stand_in_is_a_note(self):
        world = four()
        plant(world, "c", "k", FIRST)
        world.weave([("doubt", "a", "b"), ("read", "me", "a", "k"), ("give", 0), ("give", 1), ("give", 2), ("give", 3)])
        self.assertEqual(under_way(world), [("mend", 0, "a", "d", "k", FIRST, "b")])
        world.do(("flow",))
        self.assertEqual(world.one_house("d").state(), ("d", 1, 0, (), (("k", "b", FIRST),)))

    def test_the_house_itself_keeps_it_at_once(self):
        world = four()
        plant(world, "b", "k", FIRST)
        world.weave([("read", "me", "c", "k"), ("give", 0)])
        self.assertEqual(world.do(("give", 1)), [("told", "me", "k", (10,), (A1,))])
        self.assertEqual(world.one_house("c").cell("k"), FIRST)
        self.assertEqual(world.letters(), [])

    def test_the_house_itself_that_stands_in_keeps_a_note(self):
        world = four()
        plant(world, "c", "k", FIRST)
        world.weave([("doubt", "d", "b"), ("read", "me", "d", "k"), ("flow",)])
        self.assertEqual(world.one_house("d").state(), ("d", 1, 0, (), (("k", "b", FIRST),)))

    def test_in_a_world_without_mending_nothing_is_mended(self):
        world = four(mending=False)
        plant(world, "b", "k", FIRST)
        plant(world, "c", "k", BESIDE)
        told = [("told", "me", "k", (10, 20), (A1, C1))]
        self.assertEqual(world.weave([("read", "me", "c", "k"), ("give", 0), ("give", 1)]), [[], [], told])
        self.assertEqual(world.weave([("read", "me", "a", "k"), ("flow",)]), [[], told])
        self.assertEqual([world.one_house(name).cell("k") for name in "bc"], [FIRST, BESIDE])
        self.assertEqual(world.letters(), [])

    def test_bring_and_took(self):
        world = four()
        plant(world, "a", "k", SECOND, place="b")
        plant(world, "b", "k", BOTH)
        world.weave([("return", "a"), ("give", 0)])
        self.assertEqual(world.one_house("b").cell("k"), BESIDE + SECOND)
        self.assertEqual(world.letters(), [(1, ("took", None, "b", "a", "k", SECOND, None))])
        world.do(("give", 1))
        self.assertEqual((world.one_house("a").notes(), world.letters()), ([], []))


class Later(Case):
    def test_answers_that_come_later_still_count(self):
        world = four(write=1, read=1)
        self.assertEqual(world.weave([("write", "me", "b", "k", 5), ("flow",)]), [[("wrote", "me", "k", B1)], []])
        self.assertEqual(world.own_asks[0].own_ask.held(), ["b", "c"])
        plant(world, "c", "k", FIRST)
        self.assertEqual(world.do(("read", "me", "b", "k")), [("told", "me", "k", (5,), (B1,))])
        # The later one has more, and is not unlike the joined cell then: none is mended.
        world.do(("flow",))
        self.assertEqual([world.one_house(name).cell("k") for name in "bc"], [((B1, (), 5),), FIRST + ((B1, (), 5),)])

    def test_a_later_one_that_has_less_is_mended(self):
        world = four(read=1)
        plant(world, "b", "k", FIRST)
        world.weave([("read", "me", "b", "k"), ("give", 0), ("give", 1)])
        self.assertEqual(under_way(world), [("mend", 0, "b", "c", "k", FIRST, None)])

    def test_said_twice_mends_once(self):
        world = four(read=1)
        plant(world, "b", "k", FIRST)
        world.weave([("read", "me", "b", "k"), ("give", 0), ("twice", 1), ("twice", 1)])
        self.assertEqual([letter[0] for letter in under_way(world)], ["said", "mend"])

    def test_when_the_asker_left_it_is_mended_all_the_same(self):
        world = four()
        plant(world, "b", "k", FIRST)
        self.assertEqual(world.weave([("read", "me", "c", "k"), ("leave", "me"), ("flow",)]), [[], [], []])
        self.assertEqual(world.one_house("c").cell("k"), FIRST)
        self.assertEqual(world.asker_twin("me").tellings(), [])


class Away(Case):
    def test_letters_to_a_house_that_is_away_are_lost_when_given(self):
        world = four()
        world.weave([("write", "me", "a", "k", 5), ("away", "b")])
        self.assertEqual(len(world), 2)
        self.assertEqual(world.do(("give", 0)), [])
        self.assertEqual(world.letters(), [(1, ("keep", 0, "a", "c", "k", ((A1, (), 5),), None))])
        world.do(("back", "b"))
        self.assertEqual(world.do(("flow",)), [])
        self.assertEqual([world.one_house(name).cell("k") for name in "bc"], [(), ((A1, (), 5),)])

    def test_not_while_they_are_under_way(self):
        world = four()
        world.weave([("write", "me", "a", "k", 5), ("away", "b"), ("back", "b")])
        self.assertEqual(world.do(("flow",)), [("wrote", "me", "k", A1)])

    def test_twice_stays_and_may_be_given_when_it_is_back(self):
        world = four()
        world.weave([("write", "me", "a", "k", 5), ("away", "b"), ("twice", 0)])
        self.assertEqual([number for number, letter in world.letters()], [0, 1])
        world.do(("back", "b"))
        self.assertEqual(world.do(("flow",)), [("wrote", "me", "k", A1)])

    def test_letters_of_each_word(self):
        words = {}
        for word in ("keep", "kept", "tell", "said", "mend", "bring", "took"):
            world = four(read=1)
            plant(world, "b", "k", FIRST)
            plant(world, "d", "ab", BESIDE, place="c")
            world.weave([("write", "me", "a", "z", 5), ("read", "you", "b", "k"), ("return", "d")])
            while word not in [letter[0] for letter in under_way(world)]:
                world.do(("give", world.letters()[0][0]))
            number, letter = [row for row in world.letters() if row[1][0] == word][0]
            for name in "abcd":
                world.do(("away", name))
            before = [world.one_house(name) for name in "abcd"]
            self.assertEqual(world.do(("give", number)), [])
            self.assertEqual([world.one_house(name) for name in "abcd"], before)
            words[word] = letter
        self.assertEqual(len(words), 7)

    def test_a_house_away_lets_its_letters_go_on(self):
        world = four()
        world.weave([("write", "me", "a", "k", 5), ("away", "a"), ("give", 0)])
        self.assertEqual(world.one_house("b").cell("k"), ((A1, (), 5),))
        self.assertEqual(under_way(world)[-1], ("kept", 0, "b", "a", "k", (), None))


class Lost(Case):
    def test_a_writing_of_a_house_that_lost_all(self):
        world = four()
        world.weave([("write", "me", "a", "k", 5), ("lost", "a"), ("back", "a")])
        self.assertEqual(world.do(("flow",)), [])
        self.assertEqual((world.asked(), world.book().told()), ([("me", 0)], []))
        self.assertEqual(world.one_house("b").cell("k"), ((A1, (), 5),))
        self.assertEqual(world.own_asks[0].own_ask.held(), [])

    def test_a_reading_of_a_house_that_lost_all(self):
        world = four()
        plant(world, "b", "k", FIRST)
        world.weave([("read", "me", "c", "k"), ("lost", "c"), ("back", "c")])
        self.assertEqual(world.do(("flow",)), [])
        self.assertEqual((world.asked(), world.letters()), ([("me", 0)], []))
        self.assertEqual(world.one_house("c").cell("k"), ())

    def test_an_ask_of_its_new_life(self):
        world = four()
        world.weave([("write", "me", "a", "k", 5), ("lost", "a"), ("back", "a"), ("write", "you", "a", "k", 6)])
        self.assertEqual(world.do(("flow",)), [("wrote", "you", "k", (1, "a", 2))])

    def test_an_answer_of_a_house_that_lost_all_since_counts(self):
        world = four()
        world.weave([("write", "me", "a", "k", 5), ("give", 0), ("lost", "b"), ("give", 1)])
        self.assertEqual(world.do(("flow",)), [("wrote", "me", "k", A1)])
        self.assertEqual(world.book().told(), [(A1, "k", ("b", "c"), 0)])


if __name__ == "__main__":
    unittest.main()
