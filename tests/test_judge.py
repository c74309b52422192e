"""[12.1]: what is judged of a world."""

import unittest

from cases import Case
from drawn import KEYS, draws, drawn_steps, drawn_world
from heldhints.judge import dots_there, missing, risen
from worlds import all_of_it, four, plant

A1, A2, B1, B2, C1, C2 = (1, "a", 1), (2, "a", 1), (1, "b", 1), (2, "b", 1), (1, "c", 1), (2, "c", 1)


class DotsThere(Case):
    def test_none(self):
        self.assertEqual(dots_there(four(), "k"), [])

    def test_in_cells_joined_with_notes(self):
        world = four()
        plant(world, "b", "k", ((A1, (), 5),))
        plant(world, "c", "k", ((B1, (), 6),))
        plant(world, "d", "k", ((C1, (), 7),), place="b")
        plant(world, "d", "z", ((C2, (), 7),))
        self.assertEqual(dots_there(world, "k"), [A1, B1, C1])
        self.assertEqual(dots_there(world, "z"), [C2])
        self.assertEqual(dots_there(world, "ab"), [])

    def test_what_a_note_of_the_same_house_puts_out_is_not_there(self):
        world = four()
        plant(world, "b", "k", ((A1, (), 5), (B1, (), 6)))
        plant(world, "b", "k", ((A2, (A1,), 7),), place="c")
        self.assertEqual(dots_there(world, "k"), [B1, A2])
        # One of another house does not put it out, where it is.
        plant(world, "c", "k", ((A1, (), 5),))
        self.assertEqual(dots_there(world, "k"), [A1, B1, A2])

    def test_also_of_houses_that_are_away_and_of_marks(self):
        world = four()
        plant(world, "b", "k", ((A1, (), ("gone", 0)),))
        world.do(("away", "b"))
        self.assertEqual(dots_there(world, "k"), [A1])

    def test_letters_are_not_there(self):
        world = four()
        world.do(("write", "me", "a", "k", 5))
        self.assertEqual(dots_there(world, "k"), [])
        world.do(("give", 0))
        self.assertEqual(dots_there(world, "k"), [A1])


class Missing(Case):
    def test_losses_below_at_and_above_what_must_answer(self):
        """Of a writing of which nothing is there, since all that had it lost it."""
        for need in (1, 2, 3):
            for many in range(5):
                world = four(copies=3, write=need)
                world.weave([("write", "me", "b", "k", 5), ("flow",)])
                for name in world.houses():
                    world.own_houses[name].put_cell("k", ())
                world.weave([("lost", "a")] * many)
                self.assertEqual(missing(world), [B1] if many < need else [], (need, many))

    def test_losses_ahead_of_its_begin_do_not_count(self):
        world = four(write=1)
        world.weave([("lost", "a"), ("lost", "a"), ("write", "me", "b", "k", 5)])
        world.own_houses["b"].put_cell("k", ())
        self.assertEqual(missing(world), [B1])
        world.do(("lost", "a"))
        self.assertEqual(missing(world), [])

    def test_what_came_of_it_is_enough(self):
        world = four(write=1)
        world.weave([("write", "me", "b", "k", 5), ("write", "me", "b", "k", 6)])
        self.assertEqual((dots_there(world, "k"), missing(world)), ([B2], []))
        world.own_houses["b"].put_cell("k", ())
        self.assertEqual(missing(world), [B1, B2])
        plant(world, "d", "k", ((B2, (), 6),), place="c")
        self.assertEqual(missing(world), [])

    def test_a_mark_let_go_is_enough(self):
        world = four(write=1, keep=1)
        world.weave([("write", "me", "b", "k", 5), ("gone", "me", "b", "k"), ("lose", 0), ("lose", 1), ("tick", 1)])
        self.assertEqual((dots_there(world, "k"), world.book().swept(), missing(world)), ([], [B2], []))

    def test_of_writings_whose_asker_left(self):
        world = four()
        world.weave([("write", "me", "b", "k", 5), ("leave", "me"), ("flow",)])
        for name in "bc":
            world.own_houses[name].put_cell("k", ())
        self.assertEqual(missing(world), [B1])

    def test_of_several_keys_sorted(self):
        world = four(write=1)
        world.weave([("write", "me", "c", "z", 5), ("write", "me", "b", "k", 5), ("write", "me", "a", "lc", 5)])
        for name, word in (("c", "z"), ("b", "k"), ("a", "lc")):
            world.own_houses[name].put_cell(word, ())
        self.assertEqual(missing(world), [A1, B1, C1])

    def test_not_of_writings_that_were_not_told(self):
        world = four()
        world.weave([("write", "me", "b", "k", 5), ("lose", 0)])
        world.own_houses["b"].put_cell("k", ())
        self.assertEqual(missing(world), [])

    def test_a_house_lost_as_it_should_be_judged(self):
        world = four(write=2)
        world.weave([("write", "me", "b", "k", 5), ("flow",), ("lost", "b")])
        self.assertEqual((missing(world), dots_there(world, "k")), ([], [B1]))
        world.do(("lost", "c"))
        self.assertEqual((missing(world), dots_there(world, "k")), ([], []))

    def test_none_over_drawn_weavings(self):
        for draw in draws(120, "missing"):
            world = drawn_world(draw)
            for deed, told in drawn_steps(draw, world, 80):
                if draw.random() < 0.3:
                    self.assertEqual(missing(world), [])
            self.assertEqual(missing(world), [])


class Risen(Case):
    def test_where_a_mark_was_let_go(self):
        world = four(write=1, keep=2)
        world.weave([("write", "me", "b", "k", 5), ("gone", "me", "b", "k"), ("lose", 1)])
        self.assertEqual(risen(world, "k"), [])
        # The worth comes to c, that knows nothing of the mark: it is there, but the mark is not let go yet.
        world.do(("give", 0))
        self.assertEqual((dots_there(world, "k"), risen(world, "k")), ([B1, B2], []))
        world.do(("tick", 2))
        self.assertEqual((dots_there(world, "k"), risen(world, "k")), ([B1], [B1]))
        self.assertEqual((risen(world, "z"), missing(world)), ([], []))

    def test_the_mark_itself_does_not_count(self):
        world = four(write=1, keep=1)
        world.weave([("gone", "me", "b", "k"), ("tick", 1)])
        # It is let go under way too, as it is given; here it is planted anew.
        plant(world, "c", "k", ((B1, (), ("gone", 0)),))
        self.assertEqual((dots_there(world, "k"), world.book().swept(), risen(world, "k")), ([B1], [B1], []))

    def test_by_way_of_others(self):
        world = four(write=1, keep=1, most=0)
        world.weave([("write", "me", "b", "k", 5), ("write", "me", "b", "k", 6), ("gone", "me", "b", "k"), ("tick", 1)])
        # Nothing is known to any version, so that all stay where they are; the mark came of both.
        self.assertEqual(risen(world, "k"), [B1, B2])

    def test_what_the_marks_writer_did_not_know(self):
        world = four(write=1, keep=1)
        world.weave([("write", "me", "b", "k", 5), ("gone", "you", "b", "k"), ("tick", 1)])
        self.assertEqual((dots_there(world, "k"), risen(world, "k")), ([B1], []))


class Arguments(Case):
    def test_by_names_and_nothing_changed(self):
        world = four(write=1, keep=1)
        world.weave([("write", "me", "b", "k", 5), ("gone", "me", "b", "k"), ("tick", 1), ("give", 0)])
        before = all_of_it(world)
        for told, wanted in ((dots_there(word="k", world=world), [B1]), (missing(world=world), []), (risen(word="k", world=world), [B1])):
            self.assertEqual(told, wanted)
            self.assertIs(type(told), list)
            told.append(None)
        self.assertEqual((dots_there(world, "k"), missing(world), risen(world, "k")), ([B1], [], [B1]))
        self.assertEqual(all_of_it(world), before)
        self.assertRaises(TypeError, dots_there, world)
        self.assertRaises(TypeError, missing)
        self.assertRaises(TypeError, risen, world)

    def test_all_keys_of_drawn_worlds(self):
        for draw in draws(20, "judged"):
            world = drawn_world(draw)
            for deed, told in drawn_steps(draw, world, 60):
                pass
            for word in KEYS:
                made = [version[0] for version in world.book().versions(word)]
                self.assertLessEqual(set(dots_there(world, word)), set(made))
                self.assertLessEqual(set(risen(world, word)), set(dots_there(world, word)))


if __name__ == "__main__":
    unittest.main()
