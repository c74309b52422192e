"""[0.2]: what a whole number and a word are."""

import unittest

from heldhints.kinds import first_wrong, is_between, is_whole, is_word, rises
from odd import no_wholes, odd_things


class Kinds(unittest.TestCase):
    def test_whole_numbers(self):
        for thing in (0, 1, -1, 10 ** 29, -(10 ** 29)):
            self.assertIs(is_whole(thing), True, thing)
        for thing in (True, False, 1.0, "1", None, (1,), [1], b"1"):
            self.assertIs(is_whole(thing), False, thing)

    def test_words(self):
        for thing in ("a", "z", "az", "abcdef", "gone"):
            self.assertIs(is_word(thing), True, thing)
        for thing in ("", "abcdefg", "a" * 20000, "A", "aB", "a1", "1", "a b", " a", "a\n", "a-", "_", "`", "{"):
            self.assertIs(is_word(thing), False, thing)
        for thing in ("\xe9", "\xdf", "\u03b1", "\u0131"):
            self.assertIs(is_word(thing), False, thing)
        for thing in (None, True, 1, b"a", ["a"], ("a",), {"a": 1}):
            self.assertIs(is_word(thing), False, thing)

    def test_of_anything(self):
        for thing in odd_things():
            self.assertIs(is_whole(thing), False)
            self.assertIn(is_word(thing), (True, False))

    def test_rises(self):
        for row in ((), [], (1,), (1, 2), [1, 2, 5]):
            self.assertIs(rises(row), True, row)
        for row in ((1, 1), (2, 1), [1, 3, 2], [1, 2, 2]):
            self.assertIs(rises(row), False, row)

    def test_between(self):
        for thing, wanted in ((2, False), (3, True), (4, True), (5, True), (6, False), (-3, False)):
            self.assertIs(is_between(thing, 3, 5), wanted, thing)
        self.assertIs(is_between(True, 0, 5), False)
        self.assertIs(is_between(3, 3, 2), False)
        for thing in no_wholes():
            self.assertIs(is_between(thing, -5, 5), False)

    def test_first_wrong(self):
        for row in ((), [], (1,), [2, 1], (3, 1, 2)):
            self.assertIs(first_wrong(row, is_whole), None, row)
        for row, wanted in (([None], 0), ((1, 2, "a", "a"), 2), ([1, 2, 1, None], 2), ([1, 1], 1), ([1, True], 1)):
            self.assertEqual(first_wrong(row, is_whole), wanted, row)
        for thing in no_wholes():
            self.assertEqual(first_wrong([1, thing, thing], is_whole), 1)


if __name__ == "__main__":
    unittest.main()
