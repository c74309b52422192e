"""[7.1]: what it says of a shape; [0.2] as far as it speaks of it."""

import itertools
import unittest

from cases import Case
from heldhints.errors import NoKey, NoShape
from heldhints.ring import Ring
from heldhints.shape import Shape
from odd import no_wholes, no_words, odd_things

RING = Ring([(10 * number, house) for number, house in enumerate("abcdef")])
SMALL = Ring([(0, "a"), (9, "b")])

# A wrong one of each part, in their order.
WRONG = {"ring": None, "copies": 6, "write": 0, "read": 9, "most": -1, "keep": 0}


class Shapes(Case):
    def refused(self, what, **parts):
        ring = parts.pop("ring", RING)
        with self.assertRaises(NoShape) as caught:
            Shape(ring, **parts)
        self.assertEqual(caught.exception.what, what, parts)

    def test_what_may_be_left_out(self):
        shape = Shape(RING)
        self.assertEqual(shape.ring(), RING)
        self.assertEqual((shape.counts(), shape.most(), shape.kept()), ((3, 2, 2), 8, 20))

    def test_of_all_parts(self):
        shape = Shape(RING, copies=5, write=4, read=1, most=None, keep=7)
        self.assertEqual((shape.counts(), shape.most(), shape.kept()), ((5, 4, 1), None, 7))
        self.assertIs(type(shape.counts()), tuple)

    def test_a_ring(self):
        for thing in odd_things() + no_words() + [RING.marks(), tuple(RING.marks()), Ring, Shape(RING)]:
            self.refused("ring", ring=thing)

    def test_copies(self):
        for copies in (1, 2, 3, 4, 5):
            self.assertEqual(Shape(RING, copies=copies, write=1, read=1).counts(), (copies, 1, 1))
        for copies in (0, -1, 6, 7, 10 ** 29, True, False):
            self.refused("copies", copies=copies, write=1, read=1)
        for thing in no_wholes():
            self.refused("copies", copies=thing)

    def test_no_more_copies_than_houses(self):
        self.assertEqual(Shape(SMALL, copies=2).counts(), (2, 2, 2))
        self.refused("copies", ring=SMALL, copies=3)
        self.refused("copies", ring=SMALL)
        one = Ring([(0, "a"), (1, "a"), (2, "a")])
        self.assertEqual(Shape(one, copies=1, write=1, read=1).counts(), (1, 1, 1))
        self.refused("copies", ring=one, copies=2, write=1, read=1)

    def test_write_and_read(self):
        for copies in (1, 2, 5):
            for many in range(1, copies + 1):
                self.assertEqual(Shape(RING, copies=copies, write=many, read=1).counts(), (copies, many, 1))
                self.assertEqual(Shape(RING, copies=copies, write=1, read=many).counts(), (copies, 1, many))
            for many in (0, -1, copies + 1, 10 ** 29, True, False):
                self.refused("write", copies=copies, write=many, read=1)
                self.refused("read", copies=copies, write=1, read=many)
        self.refused("write", copies=1)
        for thing in no_wholes():
            self.refused("write", write=thing)
            self.refused("read", read=thing)

    def test_most(self):
        for most in (0, 1, 99, None):
            self.assertEqual(Shape(RING, most=most).most(), most)
        for most in (-1, 100, 10 ** 29, True, False):
            self.refused("most", most=most)
        for thing in no_wholes():
            if thing is not None:
                self.refused("most", most=thing)

    def test_keep(self):
        for keep in (1, 2, 10 ** 6):
            self.assertEqual(Shape(RING, keep=keep).kept(), keep)
        for keep in (0, -1, 10 ** 6 + 1, True, False, None):
            self.refused("keep", keep=keep)
        for thing in no_wholes():
            self.refused("keep", keep=thing)

    def test_several_wrong_at_once(self):
        names = list(WRONG)
        for many in range(1, len(names) + 1):
            for some in itertools.combinations(names, many):
                self.refused(some[0], **{name: WRONG[name] for name in some})


class Told(Case):
    def test_homes(self):
        # The key k is at place 11, a at 1.
        shape = Shape(RING, copies=2)
        self.assertEqual(shape.homes("k"), ["c", "d"])
        self.assertEqual(shape.homes("a"), ["b", "c"])
        self.assertEqual(Shape(RING, copies=5).homes("k"), ["c", "d", "e", "f", "a"])
        self.assertEqual(Shape(SMALL, copies=2).homes("k"), ["a", "b"])
        for thing in no_words():
            self.refuses(NoKey, shape.homes, thing)

    def test_homes_are_the_askers_own(self):
        shape = Shape(RING)
        told = shape.homes("k")
        self.assertIs(type(told), list)
        told.clear()
        self.assertEqual(shape.homes("k"), ["c", "d", "e"])

    def test_with_ring(self):
        shape = Shape(RING, copies=2, write=1, read=2, most=None, keep=7)
        made = shape.with_ring(SMALL)
        self.are_alike(made, Shape(SMALL, copies=2, write=1, read=2, most=None, keep=7))
        self.are_alike(shape, Shape(RING, copies=2, write=1, read=2, most=None, keep=7))
        self.are_alike(made.with_ring(RING), shape)

    def test_with_what_is_no_ring_or_too_small(self):
        shape = Shape(RING)
        for thing in odd_things() + [RING.marks()]:
            self.refuses(NoShape, shape.with_ring, thing, what="ring")
        self.refuses(NoShape, shape.with_ring, SMALL, what="copies")
        self.are_alike(shape, Shape(RING))

    def test_alike_and_unlike(self):
        self.are_alike(Shape(RING), Shape(Ring(RING.marks()[::-1]), copies=3, write=2, read=2, most=8, keep=20))
        for parts in ({"copies": 4}, {"write": 1}, {"read": 3}, {"most": 9}, {"most": None}, {"keep": 21}):
            self.are_unlike(Shape(RING), Shape(RING, **parts))
        self.are_unlike(Shape(RING), Shape(RING.with_house("g", [3])))
        self.are_unlike(Shape(RING, most=0), Shape(RING, most=None))
        self.is_like_nothing_else(Shape(RING))
        self.are_unlike(Shape(RING), RING)


class Arguments(Case):
    def test_by_names(self):
        shape = Shape(keep=5, most=0, read=1, write=3, copies=4, ring=RING)
        self.assertEqual((shape.counts(), shape.most(), shape.kept()), ((4, 3, 1), 0, 5))
        self.assertEqual(shape.homes(word="k"), ["c", "d", "e", "f"])
        self.are_alike(shape.with_ring(ring=RING), shape)

    def test_all_but_the_ring_by_names_alone(self):
        self.assertRaises(TypeError, Shape, RING, 3)
        self.assertRaises(TypeError, Shape)
        self.assertRaises(TypeError, Shape(RING).homes)
        self.assertRaises(TypeError, Shape(RING).with_ring)


if __name__ == "__main__":
    unittest.main()
