"""[1.1]: dots and what is known; [0.2] as far as it speaks of them."""

import copy
import itertools
import unittest

from heldhints.dots import cut, is_dot, is_known, next_number, together
from odd import odd_things

A1, A2, A3 = (1, "a", 1), (2, "a", 1), (3, "a", 1)
B1, B2 = (1, "b", 1), (2, "b", 1)
A1_LATER = (1, "a", 2)


class Dots(unittest.TestCase):
    def test_dots(self):
        for thing in (A1, (7, "abcdef", 3), (1, "z", 10 ** 29)):
            self.assertIs(is_dot(thing), True, thing)

    def test_number_at_the_edges(self):
        for number, wanted in ((-1, False), (0, False), (1, True), (10 ** 12, True), (10 ** 12 + 1, False)):
            self.assertIs(is_dot((number, "a", 1)), wanted, number)

    def test_house_at_the_edges(self):
        for house in ("a", "z", "abcdef"):
            self.assertIs(is_dot((1, house, 1)), True, house)
        for house in ("", "abcdefg", "A", "a1", "a b", "a-", "a\n", "a.", " ", "\xe4", b"a", ["a"], ("a",), 1, None):
            self.assertIs(is_dot((1, house, 1)), False, house)

    def test_life_at_the_edges(self):
        for life, wanted in ((-1, False), (0, False), (1, True), (10 ** 12 + 1, True)):
            self.assertIs(is_dot((1, "a", life)), wanted, life)

    def test_truths_are_no_whole_numbers(self):
        for thing in ((True, "a", 1), (False, "a", 1), (1, "a", True), (1, "a", False), (1, True, 1)):
            self.assertIs(is_dot(thing), False, thing)

    def test_other_forms(self):
        for thing in ((), (1,), (1, "a"), (1, "a", 1, 1), ("a", 1, 1), (1, 1, "a"), (A1,), ((1, "a", 1), "a", 1)):
            self.assertIs(is_dot(thing), False, thing)
        for thing in ([1, "a", 1], {1: "a"}, "1a1", (1.0, "a", 1), (1, "a", 1.0), ("1", "a", 1), (None, "a", 1)):
            self.assertIs(is_dot(thing), False, thing)

    def test_of_anything(self):
        for thing in odd_things():
            self.assertIs(is_dot(thing), False)
            self.assertIs(is_dot((thing, "a", 1)), False)
            self.assertIs(is_dot((1, "a", thing)), False)
            self.assertIn(is_dot((1, thing, 1)), (True, False))
            self.assertIs(is_dot((1, (thing,), 1)), False)


class Known(unittest.TestCase):
    def test_known(self):
        for thing in ((), (A1,), (A1, A2), (A1, B1), (A1, A1_LATER), (A1, A1_LATER, B1, A2, B2, A3)):
            self.assertIs(is_known(thing), True, thing)

    def test_rises_by_numbers_then_houses_then_lives(self):
        self.assertIs(is_known(((9, "z", 9), (10, "a", 1))), True)
        self.assertIs(is_known(((1, "ab", 9), (1, "b", 1))), True)
        self.assertIs(is_known(((1, "a", 9), (1, "a", 10))), True)

    def test_does_not_rise(self):
        for thing in ((A2, A1), (B1, A1), (A1_LATER, A1), (A1, A3, A2), (A2, B1)):
            self.assertIs(is_known(thing), False, thing)

    def test_has_a_dot_twice(self):
        for thing in ((A1, A1), (A1, A2, A2), (A1, B1, A1)):
            self.assertIs(is_known(thing), False, thing)

    def test_no_tuple(self):
        for thing in ([], [A1], [A1, A2], {A1: True}, {A1}, iter((A1,)), A1, None, ""):
            self.assertIs(is_known(thing), False)

    def test_holds_no_dot(self):
        for thing in ((1,), (A1, None), ((0, "a", 1),), ((True, "a", 1),), (list(A1),), (A1, list(A2)), ((A1,),)):
            self.assertIs(is_known(thing), False, thing)

    def test_of_anything(self):
        for thing in odd_things():
            self.assertIs(is_known(thing), False)
            self.assertIs(is_known((thing,)), False)
            self.assertIs(is_known((A1, thing)), False)
            self.assertIs(is_known((thing, A1)), False)


class Together(unittest.TestCase):
    def test_of_none_and_of_one(self):
        self.assertEqual(together([]), ())
        self.assertEqual(together([()]), ())
        self.assertEqual(together([(), ()]), ())
        self.assertEqual(together([(A1, B1, A2)]), (A1, B1, A2))

    def test_of_several_with_dots_twice(self):
        self.assertEqual(together([(A2,), (A1,)]), (A1, A2))
        self.assertEqual(together([(A1, A2), (A1, B1), (), (A2, A3)]), (A1, B1, A2, A3))
        self.assertEqual(together([(A1, A2)] * 3), (A1, A2))
        self.assertEqual(together([(A1,), (A1_LATER,)]), (A1, A1_LATER))

    def test_is_known_in_whatever_order(self):
        some = [(A1, B2), (B1, A2), (A1_LATER, A2, A3)]
        for order in itertools.permutations(some):
            told = together(list(order))
            self.assertEqual(told, (A1, A1_LATER, B1, A2, B2, A3))
            self.assertIs(is_known(told), True)

    def test_changes_and_keeps_nothing(self):
        some = [(A2,), (A1, A3)]
        before = copy.deepcopy(some)
        told = together(some)
        self.assertEqual(some, before)
        some.clear()
        self.assertEqual(told, (A1, A2, A3))


class Cut(unittest.TestCase):
    def test_to_none_some_and_more(self):
        known = (A1, B1, A2, A3)
        self.assertEqual(cut(known, 0), ())
        self.assertEqual(cut(known, 1), (A3,))
        self.assertEqual(cut(known, 2), (A2, A3))
        self.assertEqual(cut(known, 3), (B1, A2, A3))
        for most in (4, 5, 99):
            self.assertEqual(cut(known, most), known)

    def test_to_all(self):
        known = (A1, B1, A2, A3)
        self.assertEqual(cut(known, None), known)
        self.assertEqual(cut(known), known)

    def test_of_nothing_known(self):
        for most in (None, 0, 1, 99):
            self.assertEqual(cut((), most), ())

    def test_is_known_and_of_that_size(self):
        known = tuple((number, house, 1) for number in range(1, 30) for house in ("a", "b"))
        for most in range(70):
            told = cut(known, most)
            self.assertIs(is_known(told), True)
            self.assertEqual(len(told), min(most, len(known)))
            self.assertTrue(all(one > other for one in told for other in known if other not in told))


class NextNumber(unittest.TestCase):
    def test_own_above_and_below(self):
        self.assertEqual(next_number(9, (A1, A3)), 10)
        self.assertEqual(next_number(3, (A1, A3)), 4)
        self.assertEqual(next_number(2, (A1, A3)), 4)
        self.assertEqual(next_number(0, (A1, A3)), 4)

    def test_of_nothing_known(self):
        self.assertEqual(next_number(0, ()), 1)
        self.assertEqual(next_number(7, ()), 8)

    def test_counts_dots_of_all_houses_and_lives(self):
        self.assertEqual(next_number(1, ((2, "a", 1), (5, "b", 9))), 6)

    def test_up_to_the_greatest(self):
        self.assertEqual(next_number(0, ((10 ** 12 - 1, "a", 1),)), 10 ** 12)


class Arguments(unittest.TestCase):
    def test_by_names(self):
        self.assertIs(is_dot(thing=A1), True)
        self.assertIs(is_known(thing=(A1,)), True)
        self.assertEqual(together(some=[(A1,), (A2,)]), (A1, A2))
        self.assertEqual(cut(known=(A1, A2)), (A1, A2))
        self.assertEqual(cut(most=1, known=(A1, A2)), (A2,))
        self.assertEqual(cut((A1, A2), most=1), (A2,))
        self.assertEqual(next_number(known=(A2,), own=0), 3)

    def test_none_else_may_be_left_out(self):
        for call in (is_dot, is_known, together, cut, next_number):
            with self.assertRaises(TypeError):
                call()
        with self.assertRaises(TypeError):
            next_number(1)


if __name__ == "__main__":
    unittest.main()
