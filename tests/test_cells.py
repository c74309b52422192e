"""[1.2]: marks, worths, versions and cells."""

import copy
import unittest

from heldhints.cells import (dots_of, has_or_more, is_cell, is_mark, is_version, is_worth, joined, known_by,
                             new_version, puts_out, without_elder, worths_of)
from heldhints.errors import NoCell, NoVersion
from odd import odd_things

A1, A2, A3 = (1, "a", 1), (2, "a", 1), (3, "a", 1)
B1, B2 = (1, "b", 1), (2, "b", 1)
C3 = (3, "c", 1)

FIRST = (A1, (), 10)
BESIDE = (B1, (), 20)
SECOND = (A2, (A1,), 30)
OVER_BOTH = (A3, (A1, B1, A2), 40)
FADED = (B2, (B1,), ("gone", 5))
FADED_LATE = (C3, (), ("gone", 9))

NO_CELLS = [
    [], [FIRST], FIRST, (FIRST[0],), (list(FIRST),), ((list(A1), (), 1),), ((A1, [], 1),),
    (BESIDE, FIRST), (FIRST, FIRST), (FIRST, (A1, (), 11)), (FIRST, SECOND), (SECOND, OVER_BOTH),
    (FIRST, (B1, (A1,), 5)), ((A1, (B1,), 5), BESIDE), ((A1, (A1,), 5),), ((A1, (), 10 ** 9 + 1),),
    ((A1, (), True),), ((A1, (), ("gone", -1)),), (FIRST, None), (None, FIRST), {FIRST: True}, 0, 1, -1, ((),), (0,),
]


class Marks(unittest.TestCase):
    def test_marks(self):
        for time in (0, 1, 10 ** 6, 10 ** 29):
            self.assertIs(is_mark(("gone", time)), True, time)

    def test_times_at_the_edges(self):
        for time in (-1, -(10 ** 6), True, False, 1.0, "1", None, (1,), [1]):
            self.assertIs(is_mark(("gone", time)), False, time)

    def test_other_forms(self):
        for thing in (["gone", 1], ("Gone", 1), ("gon", 1), ("gonee", 1), ("", 1), (b"gone", 1), (1, "gone")):
            self.assertIs(is_mark(thing), False, thing)
        for thing in (("gone",), ("gone", 1, 1), (), "gone", {"gone": 1}, (("gone", 1),), 0, 1):
            self.assertIs(is_mark(thing), False, thing)

    def test_of_anything(self):
        for thing in odd_things():
            self.assertIs(is_mark(thing), False)
            self.assertIs(is_mark(("gone", thing)), False)
            self.assertIs(is_mark(((thing,), 1)), False)
            self.assertIn(is_mark((thing, 1)), (True, False))


class Worths(unittest.TestCase):
    def test_numbers_at_the_edges(self):
        for number in (-(10 ** 9), -1, 0, 1, 10 ** 9):
            self.assertIs(is_worth(number), True, number)
        for number in (-(10 ** 9) - 1, 10 ** 9 + 1, 10 ** 29):
            self.assertIs(is_worth(number), False, number)

    def test_marks(self):
        self.assertIs(is_worth(("gone", 0)), True)
        self.assertIs(is_worth(("gone", 10 ** 9 + 1)), True)
        for thing in (("gone", -1), ("gone", True), ["gone", 1], ("gone",), ()):
            self.assertIs(is_worth(thing), False, thing)

    def test_truths_and_others(self):
        for thing in (True, False, 1.0, "1", None, b"1", [1], (1,)):
            self.assertIs(is_worth(thing), False, thing)

    def test_of_anything(self):
        for thing in odd_things():
            self.assertIs(is_worth(thing), False)


class Versions(unittest.TestCase):
    def test_versions(self):
        for thing in (FIRST, SECOND, OVER_BOTH, FADED, (A1, (B1, A3), -5), (A1, (), ("gone", 0))):
            self.assertIs(is_version(thing), True, thing)

    def test_knows_its_own_dot(self):
        for thing in ((A1, (A1,), 1), (A2, (A1, A2), 1), (A1, (A1, A2), 1), (A2, (A1, A2, A3), 1)):
            self.assertIs(is_version(thing), False, thing)

    def test_one_part_is_wrong(self):
        for dot in ((0, "a", 1), (1, "A", 1), (1, "a", 0), (True, "a", 1), list(A1), (), None):
            self.assertIs(is_version((dot, (), 1)), False, dot)
        for known in ([], [A2], (A3, A2), (A2, A2), (2,), None, (list(A2),), A2):
            self.assertIs(is_version((A1, known, 1)), False, known)
        for worth in (10 ** 9 + 1, -(10 ** 9) - 1, True, None, "1", 1.5, ("gone", -1), ("gone", False), ["gone", 1]):
            self.assertIs(is_version((A1, (), worth)), False, worth)

    def test_other_forms(self):
        for thing in ((), (A1,), (A1, ()), (A1, (), 1, 1), list(FIRST), (FIRST,), ((), A1, 1), A1, 0):
            self.assertIs(is_version(thing), False, thing)

    def test_of_anything(self):
        for thing in odd_things():
            self.assertIs(is_version(thing), False)
            self.assertIs(is_version((thing, (), 1)), False)
            self.assertIs(is_version((A1, thing, 1)), False)
            self.assertIs(is_version((A1, (thing,), 1)), False)
            self.assertIs(is_version((A1, (), thing)), False)

    def test_puts_out(self):
        self.assertIs(puts_out(SECOND, FIRST), True)
        self.assertIs(puts_out(OVER_BOTH, FIRST), True)
        self.assertIs(puts_out(OVER_BOTH, SECOND), True)
        self.assertIs(puts_out(FIRST, SECOND), False)
        self.assertIs(puts_out(SECOND, BESIDE), False)
        self.assertIs(puts_out(FIRST, BESIDE), False)
        self.assertIs(puts_out(FIRST, FIRST), False)
        self.assertIs(puts_out((A3, ((1, "a", 2),), 1), FIRST), False)
        self.assertIs(puts_out((A1, (C3,), 1), FADED_LATE), True)


class NewVersion(unittest.TestCase):
    def test_most_left_out_and_told(self):
        known = (A1, B1, A2, B2)
        self.assertEqual(new_version(A3, known, 7), (A3, known, 7))
        self.assertEqual(new_version(A3, known, 7, most=None), (A3, known, 7))
        self.assertEqual(new_version(A3, known, 7, most=0), (A3, (), 7))
        self.assertEqual(new_version(A3, known, 7, most=1), (A3, (B2,), 7))
        self.assertEqual(new_version(A3, known, 7, most=3), (A3, (B1, A2, B2), 7))
        self.assertEqual(new_version(A3, known, 7, most=4), (A3, known, 7))
        self.assertEqual(new_version(A3, known, 7, most=99), (A3, known, 7))

    def test_is_a_version(self):
        for worth in (-(10 ** 9), 0, 10 ** 9, ("gone", 0), ("gone", 8)):
            for most in (None, 0, 1, 2):
                self.assertIs(is_version(new_version(A3, (A1, A2), worth, most=most)), True)

    def test_refused_of_no_version(self):
        wrong = [
            ((0, "a", 1), (), 1), ((10 ** 12 + 1, "a", 1), (), 1), (list(A1), (), 1), ((1, "a", True), (), 1),
            (A1, [], 1), (A1, (A3, A2), 1), (A1, (A2, A2), 1), (A1, None, 1), (A1, (A1,), 1), (A2, (A1, A2), 1),
            (A1, (), 10 ** 9 + 1), (A1, (), True), (A1, (), None), (A1, (), ("gone", -1)), (A1, (), ["gone", 1]),
        ]
        for dot, known, worth in wrong:
            for most in (None, 0, 1, 99):
                with self.assertRaises(NoVersion):
                    new_version(dot, known, worth, most=most)

    def test_refused_where_the_cut_would_hide_its_own_dot(self):
        with self.assertRaises(NoVersion):
            new_version(A1, (A1, A2), 1, most=1)
        with self.assertRaises(NoVersion):
            new_version(A1, (A1,), 1, most=0)

    def test_refused_of_anything(self):
        for thing in odd_things():
            for parts in ((thing, (), 1), (A1, thing, 1), (A1, (thing,), 1), (A1, (), thing), (thing, thing, thing)):
                with self.assertRaises(NoVersion):
                    new_version(*parts)


class Cells(unittest.TestCase):
    def test_cells(self):
        for thing in ((), (FIRST,), (FIRST, BESIDE), (BESIDE, SECOND), (SECOND, FADED), (FIRST, FADED, FADED_LATE)):
            self.assertIs(is_cell(thing), True, thing)

    def test_no_cells(self):
        for thing in NO_CELLS:
            self.assertIs(is_cell(thing), False, thing)

    def test_put_out_from_either_side(self):
        self.assertIs(is_cell(((A1, (C3,), 1), FADED_LATE)), False)
        self.assertIs(is_cell(((A1, (), 1), (C3, (A1,), 2))), False)
        self.assertIs(is_cell(((A1, (), 1), BESIDE, (C3, (B1,), 2))), False)
        self.assertIs(is_cell(((A1, (A3,), 1), (C3, (A3,), 2))), True)

    def test_of_anything(self):
        for thing in odd_things():
            self.assertIs(is_cell(thing), False)
            self.assertIs(is_cell((FIRST, thing)), False)
            self.assertIs(is_cell((thing, FIRST)), False)

    def test_refused_wherever_a_cell_is_asked(self):
        asks = [
            lambda thing: joined([thing]),
            lambda thing: joined([(FIRST,), thing]),
            lambda thing: joined([thing, (FIRST,)]),
            lambda thing: without_elder(thing, 5),
            dots_of,
            known_by,
            worths_of,
            lambda thing: has_or_more(thing, ()),
            lambda thing: has_or_more(thing, (A1,)),
        ]
        for ask in asks:
            for thing in NO_CELLS + odd_things():
                with self.assertRaises(NoCell):
                    ask(thing)

    def test_no_list_of_cells_is_refused(self):
        for thing in (None, 5, "", "ab", {}, (FIRST,), (FIRST, BESIDE)):
            with self.assertRaises(NoCell):
                joined(thing)


class Told(unittest.TestCase):
    def test_dots_of(self):
        self.assertEqual(dots_of(()), ())
        self.assertEqual(dots_of((FIRST, BESIDE)), (A1, B1))
        self.assertEqual(dots_of((BESIDE, SECOND, FADED_LATE)), (B1, A2, C3))

    def test_known_by(self):
        self.assertEqual(known_by(()), ())
        self.assertEqual(known_by((FIRST,)), (A1,))
        self.assertEqual(known_by((SECOND, FADED)), (A1, B1, A2, B2))
        self.assertEqual(known_by((BESIDE, SECOND)), (A1, B1, A2))
        self.assertEqual(known_by(((A2, (A1, C3), 1), (B2, (A1, B1, C3), 2))), (A1, B1, A2, B2, C3))

    def test_worths_of(self):
        self.assertEqual(worths_of(()), [])
        self.assertEqual(worths_of((FADED,)), [])
        self.assertEqual(worths_of(((A1, (), 9), FADED, (A3, (), 3))), [9, 3])
        self.assertEqual(worths_of(((A1, (), 5), (B1, (), 5), (A2, (), 0))), [5, 5, 0])

    def test_worths_of_is_a_new_list_each_time(self):
        cell = (FIRST, BESIDE)
        first = worths_of(cell)
        first.append(99)
        first[0] = None
        second = worths_of(cell)
        self.assertEqual(second, [10, 20])
        self.assertIsNot(first, second)
        self.assertIs(type(second), list)

    def test_without_elder(self):
        cell = (FIRST, FADED, FADED_LATE)
        self.assertEqual(without_elder(cell, 0), cell)
        self.assertEqual(without_elder(cell, 4), cell)
        self.assertEqual(without_elder(cell, 5), (FIRST, FADED_LATE))
        self.assertEqual(without_elder(cell, 6), (FIRST, FADED_LATE))
        self.assertEqual(without_elder(cell, 8), (FIRST, FADED_LATE))
        self.assertEqual(without_elder(cell, 9), (FIRST,))
        self.assertEqual(without_elder(cell, 10 ** 6), (FIRST,))

    def test_without_elder_at_nought_and_of_none(self):
        self.assertEqual(without_elder((), 5), ())
        self.assertEqual(without_elder(((A1, (), ("gone", 0)),), -1), ((A1, (), ("gone", 0)),))
        self.assertEqual(without_elder(((A1, (), ("gone", 0)),), 0), ())

    def test_without_elder_keeps_small_worths(self):
        cell = ((A1, (), 0), (B1, (), -7))
        self.assertEqual(without_elder(cell, 10 ** 6), cell)

    def test_has_or_more(self):
        cell = (SECOND, FADED)
        for dots in ((), (A2,), (B2,), (A1,), (B1,), (A2, B2), (A1, B1, A2, B2)):
            self.assertIs(has_or_more(cell, dots), True, dots)
        for dots in ((A3,), (C3,), ((2, "a", 2),), (A2, A3), (A1, C3), (C3, A2)):
            self.assertIs(has_or_more(cell, dots), False, dots)

    def test_has_or_more_of_the_empty_cell(self):
        self.assertIs(has_or_more((), ()), True)
        self.assertIs(has_or_more((), (A1,)), False)


class Arguments(unittest.TestCase):
    def test_by_names(self):
        for call, thing in ((is_mark, ("gone", 1)), (is_worth, 1), (is_version, FIRST), (is_cell, (FIRST,))):
            self.assertIs(call(thing=thing), True)
        self.assertIs(puts_out(other=FIRST, one=SECOND), True)
        self.assertEqual(new_version(worth=1, known=(A1, B1), dot=A2), (A2, (A1, B1), 1))
        self.assertEqual(new_version(most=1, worth=1, known=(A1, B1), dot=A2), (A2, (B1,), 1))
        self.assertEqual(joined(cells=[(FIRST,), (SECOND,)]), (SECOND,))
        self.assertEqual(without_elder(time=5, cell=(FIRST, FADED)), (FIRST,))
        self.assertEqual(dots_of(cell=(FIRST,)), (A1,))
        self.assertEqual(known_by(cell=(SECOND,)), (A1, A2))
        self.assertEqual(worths_of(cell=(FIRST,)), [10])
        self.assertIs(has_or_more(dots=(A1,), cell=(FIRST,)), True)

    def test_most_by_its_name_alone(self):
        with self.assertRaises(TypeError):
            new_version(A2, (A1,), 1, 1)

    def test_none_else_may_be_left_out(self):
        calls = (is_mark, is_worth, is_version, is_cell, puts_out, new_version, joined, without_elder, dots_of,
                 known_by, worths_of, has_or_more)
        for call in calls:
            with self.assertRaises(TypeError):
                call()
        for call in (puts_out, without_elder, has_or_more):
            with self.assertRaises(TypeError):
                call(())
        with self.assertRaises(TypeError):
            new_version(A1, ())

    def test_what_is_handed_in_stays_as_it_was(self):
        cells = [(FIRST, BESIDE), (SECOND,), ()]
        before = copy.deepcopy(cells)
        told = joined(cells)
        self.assertEqual(cells, before)
        cells.clear()
        self.assertEqual(told, (BESIDE, SECOND))
        dots = [A1, A2]
        has_or_more((SECOND,), dots)
        self.assertEqual(dots, [A1, A2])

    def test_what_is_refused_stays_as_it_was(self):
        cells = [(SECOND,), (FIRST,), [FIRST]]
        before = copy.deepcopy(cells)
        with self.assertRaises(NoCell):
            joined(cells)
        self.assertEqual(cells, before)
        known = [A1]
        with self.assertRaises(NoVersion):
            new_version(A2, known, 1)
        self.assertEqual(known, [A1])


if __name__ == "__main__":
    unittest.main()
