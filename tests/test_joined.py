"""[1.2] and [0.3] (c): joined cells."""

import itertools
import unittest

from heldhints.cells import is_cell, joined, known_by, new_version, puts_out

A1, A2, A3 = (1, "a", 1), (2, "a", 1), (3, "a", 1)
B1, B2 = (1, "b", 1), (2, "b", 1)

FIRST = (A1, (), 10)
BESIDE = (B1, (), 20)
SECOND = (A2, (A1,), 30)
OVER_BOTH = (A3, (A1, B1, A2), 40)


def histories(steps):
    """All rows of versions in which each writer read some of the cells that writers had by then.

    Houses a and b write in turns; each writing knows what one or both houses' cells tell.
    """
    def go_on(cells, made):
        if len(made) == steps:
            yield made
            return
        for house in ("a", "b"):
            for read in (("a",), ("b",), ("a", "b"), ()):
                known = known_by(joined([cells[name] for name in read]))
                number = max([0] + [dot[0] for dot, *rest in made if dot[1] == house] + [dot[0] for dot in known]) + 1
                version = new_version((number, house, 1), known, len(made))
                grown = {**cells, house: joined([cells[house], (version,)])}
                yield from go_on(grown, made + [version])

    return go_on({"a": (), "b": ()}, [])


def left_over(versions):
    """The document's words: those that none of them all puts out."""
    return tuple(sorted(one for one in set(versions) if not any(puts_out(other, one) for other in versions)))


class Joined(unittest.TestCase):
    def test_of_none_and_of_one(self):
        self.assertEqual(joined([]), ())
        self.assertEqual(joined([()]), ())
        self.assertEqual(joined([(), ()]), ())
        self.assertEqual(joined([(FIRST, BESIDE)]), (FIRST, BESIDE))

    def test_of_a_cell_with_itself(self):
        for cell in ((), (FIRST,), (FIRST, BESIDE), (BESIDE, SECOND)):
            self.assertEqual(joined([cell, cell]), cell)
            self.assertEqual(joined([cell] * 5), cell)
            self.assertEqual(joined([(), cell, ()]), cell)

    def test_one_alone_that_knows_it_puts_a_version_out(self):
        for cells in itertools.permutations([(FIRST,), (SECOND,)]):
            self.assertEqual(joined(list(cells)), (SECOND,))
        for cells in itertools.permutations([(FIRST, BESIDE), (SECOND,)]):
            self.assertEqual(joined(list(cells)), (BESIDE, SECOND))
        for cells in itertools.permutations([(FIRST, BESIDE), (SECOND,), (OVER_BOTH,)]):
            self.assertEqual(joined(list(cells)), (OVER_BOTH,))

    def test_versions_that_do_not_know_each_other_are_all_kept(self):
        versions = [FIRST, BESIDE, (B2, (), 5), (A3, (), ("gone", 4)), ((1, "a", 2), (), 10)]
        for cells in itertools.permutations([(version,) for version in versions]):
            self.assertEqual(joined(list(cells)), tuple(sorted(versions)))

    def test_a_greater_number_alone_puts_nothing_out(self):
        late = ((10 ** 12, "a", 9), (), 1)
        self.assertEqual(joined([(late,), (FIRST,)]), (FIRST, late))

    def test_one_that_is_put_out_puts_out_others(self):
        cut_one = (A3, (A2,), 40)
        self.assertEqual(joined([(FIRST,), (SECOND,), (cut_one,)]), (cut_one,))
        self.assertEqual(joined([(FIRST,), (cut_one,)]), (FIRST, cut_one))

    def test_cut_ones_may_hang_on_the_order(self):
        cut_one = (A3, (A2,), 40)
        one_way = joined([joined([(SECOND,), (cut_one,)]), (FIRST,)])
        other_way = joined([joined([(SECOND,), (FIRST,)]), (cut_one,)])
        self.assertEqual(one_way, (FIRST, cut_one))
        self.assertEqual(other_way, (cut_one,))

    def test_two_that_know_each_other_are_both_put_out(self):
        self.assertEqual(joined([((A1, (B1,), 1),), ((B1, (A1,), 2),)]), ())

    def test_marks_are_versions_as_others(self):
        gone = (A2, (A1,), ("gone", 3))
        self.assertEqual(joined([(FIRST,), (gone,)]), (gone,))
        after = (A3, (A1, A2), 6)
        self.assertEqual(joined([(gone,), (after,)]), (after,))

    def test_of_a_tuple(self):
        self.assertEqual(joined(((FIRST,), (SECOND,))), (SECOND,))


class Histories(unittest.TestCase):
    def test_joined_is_what_none_of_them_all_puts_out(self):
        for made in histories(3):
            cells = [(version,) for version in made]
            told = joined(cells)
            self.assertIs(is_cell(told), True)
            self.assertEqual(told, left_over(made))

    def test_hangs_on_no_order_nor_on_how_often(self):
        for made in histories(3):
            cells = [(version,) for version in made]
            told = joined(cells)
            for order in itertools.permutations(cells):
                self.assertEqual(joined(list(order)), told)
                one_by_one = ()
                for cell in order + order:
                    one_by_one = joined([one_by_one, cell])
                self.assertEqual(one_by_one, told)
            self.assertEqual(joined([joined(cells[:2]), joined(cells[1:])]), told)


if __name__ == "__main__":
    unittest.main()
