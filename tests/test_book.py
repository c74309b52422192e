"""[12.1]: what it says of a book."""

import unittest

from cases import Case
from drawn import KEYS, draws, drawn_steps, drawn_world
from heldhints.book import Book
from worlds import four

A1, B1, B2, C1, C2 = (1, "a", 1), (1, "b", 1), (2, "b", 1), (1, "c", 1), (2, "c", 1)


class Versions(Case):
    def test_of_a_key_by_dots(self):
        world = four(write=1)
        world.weave([("write", "me", "c", "k", 5), ("write", "you", "b", "k", 6), ("gone", "me", "b", "k"),
                     ("write", "we", "a", "z", 7)])
        self.assertEqual(world.book().versions("k"), [(B1, (), 6), (C1, (), 5), (B2, (C1,), ("gone", 0))])
        self.assertEqual(world.book().versions("z"), [(A1, (), 7)])
        self.assertEqual(world.book().versions("ab"), [])

    def test_of_each_that_was_ever_made(self):
        """Also those that are put out, lost, let go, and told to nobody."""
        world = four(write=1, keep=1)
        world.weave([("write", "me", "b", "k", 5), ("gone", "me", "b", "k"), ("tick", 1), ("lost", "b"),
                     ("write", "you", "a", "k", 6), ("lose", 0)])
        self.assertEqual(world.book().versions("k"), [(A1, (), 6), (B1, (), 5), (B2, (B1,), ("gone", 0))])

    def test_known_cut_as_they_were_made(self):
        for most, known in ((None, (B1, B2)), (2, (B1, B2)), (1, (B2,)), (0, ())):
            world = four(write=1, most=most)
            world.weave([("write", "me", "b", "k", 5), ("write", "me", "b", "k", 6), ("write", "me", "b", "k", 7)])
            self.assertEqual(world.book().versions("k")[-1], ((3, "b", 1), known, 7))


class Told(Case):
    def test_who_had_answered_and_the_losses_ahead_of_its_begin(self):
        world = four(copies=3)
        self.assertEqual(world.shape().homes("k"), ["b", "c", "d"])
        world.weave([("lost", "a"), ("lost", "a"), ("back", "a"), ("write", "me", "a", "k", 5), ("lost", "d"), ("back", "d")])
        # c answers first, then b, then d, when it is told already.
        world.weave([("give", 1), ("give", 0), ("give", 2), ("give", 3), ("give", 4), ("give", 5)])
        self.assertEqual(world.book().told(), [((1, "a", 3), "k", ("c", "b"), 2)])
        self.assertEqual(world.book().losses(), 3)

    def test_of_writings_whose_asker_left(self):
        world = four()
        world.weave([("write", "me", "b", "k", 5), ("leave", "me"), ("write", "me", "b", "k", 6), ("flow",)])
        self.assertEqual(world.book().told(), [(B1, "k", ("b", "c"), 0), (B2, "k", ("b", "c"), 0)])

    def test_as_it_asks(self):
        world = four(write=1)
        world.weave([("write", "me", "b", "k", 5), ("gone", "you", "c", "z")])
        self.assertEqual(world.book().told(), [(B1, "k", ("b",), 0), (C1, "z", ("c",), 0)])

    def test_none_of_those_that_are_not_told_and_of_readings(self):
        world = four()
        world.weave([("write", "me", "b", "k", 5), ("lose", 0), ("read", "you", "b", "k"), ("flow",)])
        self.assertEqual(world.book().told(), [])

    def test_one_house_lost_twice_counts_twice(self):
        world = four()
        world.weave([("lost", "a"), ("lost", "a"), ("lost", "b"), ("away", "c"), ("back", "c")])
        self.assertEqual(world.book().losses(), 3)


class CameOf(Case):
    def test_itself_alone(self):
        world = four(write=1)
        world.weave([("write", "me", "b", "k", 5), ("write", "you", "c", "k", 6)])
        self.assertEqual(world.book().came_of(B1), [B1])
        self.assertEqual(world.book().came_of((9, "x", 1)), [(9, "x", 1)])

    def test_by_way_of_others_cut_or_not(self):
        for most in (None, 1, 0):
            world = four(write=1, most=most)
            world.weave([("write", "me", "b", "k", 5), ("write", "me", "c", "k", 6), ("flow",), ("read", "you", "b", "k"),
                         ("flow",), ("write", "you", "b", "k", 7), ("write", "we", "b", "k", 8)])
            book = world.book()
            self.assertEqual(book.came_of(B1), [B1, C2, (3, "b", 1)])
            self.assertEqual(book.came_of(C2), [C2, (3, "b", 1)])
            self.assertEqual(book.came_of((4, "b", 1)), [(4, "b", 1)])

    def test_by_way_of_others_alone(self):
        """The last writer never knew of the first version, but of one that came of it."""
        book = Book()
        third = (3, "b", 1)
        book.add_version("k", (B1, (), 5), ())
        book.add_version("k", (C2, (), 6), (B1,))
        book.add_version("k", (third, (), 7), (C2,))
        self.assertEqual((book.came_of(B1), book.came_of(C2), book.came_of(third)), ([B1, C2, third], [C2, third], [third]))

    def test_sorted_and_by_the_words_of_the_document(self):
        for draw in draws(30, "came"):
            world = drawn_world(draw)
            known = {}
            for deed, told in drawn_steps(draw, world, 60):
                book = world.book()
            for word in KEYS:
                for dot, cut_known, worth in book.versions(word):
                    known[dot] = book.own_made[dot][2]
                    self.assertLessEqual(set(cut_known), set(known[dot]))
            for dot in known:
                came, grown = set(), {dot}
                while came != grown:
                    came, grown = grown, grown | {one for one in known if set(known[one]) & grown}
                self.assertEqual(book.came_of(dot), sorted(came))
                self.assertEqual(book.came_of(dot)[0], dot)


class Swept(Case):
    def test_dots_of_marks_alone(self):
        world = four(write=1, keep=2)
        world.weave([("write", "me", "b", "k", 5), ("gone", "me", "b", "k"), ("flow",), ("gone", "you", "c", "z"), ("tick", 1)])
        self.assertEqual(world.book().swept(), [])
        world.do(("tick", 1))
        self.assertEqual(world.book().swept(), [C1, B2])


class Twins(Case):
    def test_a_world_goes_on_by_itself(self):
        world = four(write=1, keep=1)
        world.weave([("write", "me", "b", "k", 5), ("gone", "me", "b", "k")])
        book = world.book()
        twin = book.twin()
        world.weave([("tick", 1), ("lost", "a"), ("write", "you", "c", "k", 6)])
        for one in (book, twin):
            self.assertEqual(one.versions("k"), [(B1, (), 5), (B2, (B1,), ("gone", 0))])
            self.assertEqual((one.told(), one.swept(), one.losses()), ([(B1, "k", ("b",), 0), (B2, "k", ("b",), 0)], [], 0))
        twin.add_loss()
        twin.add_swept([B1])
        twin.add_telling(B1, "k", ["b"], 0)
        twin.add_version("k", (C1, (), 5), (B1,))
        self.assertEqual((book.losses(), book.swept(), len(book.told()), len(book.versions("k"))), (0, [], 2, 2))

    def test_told_lists_changed(self):
        world = four(write=1, keep=1)
        world.weave([("gone", "me", "b", "k"), ("tick", 1)])
        book = world.book()
        for ask in (book.told, book.swept, lambda: book.versions("k"), lambda: book.came_of(B1)):
            told = ask()
            self.assertIs(type(told), list)
            self.assertTrue(told)
            ask().clear()
            self.assertEqual(ask(), told)

    def test_by_names(self):
        book = four().book()
        self.assertEqual((book.versions(word="k"), book.came_of(dot=A1)), ([], [A1]))
        self.assertRaises(TypeError, book.versions)
        self.assertRaises(TypeError, book.came_of)


if __name__ == "__main__":
    unittest.main()
