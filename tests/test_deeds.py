"""[7.2]: the forms of deeds."""

import copy
import itertools
import unittest

from cases import Case
from heldhints.deeds import is_deed
from odd import no_wholes, no_words, odd_things

WORST = 10 ** 9
PLACES = tuple(range(64))

# Each word with what may stand behind it, part by part.
DEEDS = {
    "write": ("me", "a", "k", 5), "gone": ("me", "a", "k"), "read": ("me", "a", "k"), "leave": ("me",),
    "give": (3,), "twice": (3,), "lose": (3,), "flow": (),
    "away": ("a",), "back": ("a",), "lost": ("a",), "doubt": ("a", "b"), "news": ("a", "b"),
    "return": ("a",), "compare": ("a", "b"), "come": ("a", (5, 3)), "go": ("a",), "tick": (9,),
}
NO_DEEDS = """writes wrote told do tell keep kept said mend bring took calm cell note homes world asker tock
Write WRITE""".split()


class Deeds(Case):
    def told(self, *parts):
        return is_deed(parts)

    def test_each_in_its_form(self):
        for word, parts in DEEDS.items():
            self.assertIs(self.told(word, *parts), True, word)

    def test_a_part_too_few_or_too_many(self):
        for word, parts in DEEDS.items():
            if parts:
                self.assertIs(self.told(word, *parts[:-1]), False, word)
                self.assertIs(self.told(word, *parts[1:]), False, word)
            for more in ("a", 5, None, ("a",), (5,), ()):
                self.assertIs(self.told(word, *parts, more), False, word)

    def test_no_tuple(self):
        for word, parts in DEEDS.items():
            self.assertIs(is_deed([word, *parts]), False)
            self.assertIs(is_deed((word, parts)), False)
            self.assertIs(is_deed({word: parts}), False)
            self.assertIs(is_deed(word), False)
            self.assertIs(is_deed(" ".join([word] + [str(part) for part in parts])), False)
        self.assertIs(is_deed(()), False)

    def test_words_that_are_none(self):
        for word in NO_DEEDS + [" write", "write ", "", "a"] + no_words():
            for parts in set(DEEDS.values()):
                self.assertIs(self.told(word, *parts), False)
        for parts in DEEDS.values():
            self.assertIs(self.told(*parts), False)

    def test_names(self):
        for word, parts in DEEDS.items():
            for place, part in enumerate(parts):
                if isinstance(part, str):
                    for thing in no_words():
                        self.assertIs(self.told(word, *parts[:place], thing, *parts[place + 1:]), False)
                    for name in ("a", "z", "write", "abcdef"):
                        self.assertIs(self.told(word, *parts[:place], name, *parts[place + 1:]), True)

    def test_like_names_are_a_form(self):
        self.assertIs(self.told("write", "a", "a", "a", 0), True)
        for word in ("doubt", "news", "compare"):
            self.assertIs(self.told(word, "a", "a"), True)

    def test_worths(self):
        for worth in (-WORST, -1, 0, 1, WORST):
            self.assertIs(self.told("write", "me", "a", "k", worth), True, worth)
        for worth in (-WORST - 1, WORST + 1, 10 ** 29, True, False, ("gone", 0), ("gone", 5), "5"):
            self.assertIs(self.told("write", "me", "a", "k", worth), False, worth)
        for thing in no_wholes():
            self.assertIs(self.told("write", "me", "a", "k", thing), False)

    def test_letters_numbers(self):
        for word in ("give", "twice", "lose"):
            for number in (0, 1, 10 ** 12 + 1, 10 ** 29):
                self.assertIs(self.told(word, number), True, number)
            for number in (-1, -(10 ** 29), True, False, "0", None):
                self.assertIs(self.told(word, number), False, number)
            for thing in no_wholes():
                self.assertIs(self.told(word, thing), False)

    def test_many_of_a_tick(self):
        for many in (1, 2, 10 ** 6):
            self.assertIs(self.told("tick", many), True, many)
        for many in (0, -1, 10 ** 6 + 1, True, False, "1", None):
            self.assertIs(self.told("tick", many), False, many)
        for thing in no_wholes():
            self.assertIs(self.told("tick", thing), False)

    def test_places(self):
        for places in ((0,), (63,), (5, 3), (3, 5), PLACES, PLACES[::-1]):
            self.assertIs(self.told("come", "a", places), True, places)
        wrong = [(), [5], [], {5}, {5: 1}, 5, "5", None, iter((5,)), range(3), (5, 5), (1, 2, 1), (-1,), (64,), (1, 64),
                 (True,), (0, False), ("5",), ((5,),), PLACES + (0,), PLACES + (64,)]
        for places in wrong:
            self.assertIs(self.told("come", "a", places), False, places)
        for thing in odd_things():
            self.assertIs(self.told("come", "a", thing), False)
        for thing in no_wholes():
            self.assertIs(self.told("come", "a", (thing,)), False)
            self.assertIs(self.told("come", "a", (1, thing, thing)), False)

    def test_parts_of_another_kind(self):
        samples = ["a", 3, (3,), None, (), [], "A"]
        for word, parts in DEEDS.items():
            for place, part in enumerate(parts):
                for other in samples:
                    if type(other) is not type(part) or other in ((), "A"):
                        self.assertIs(self.told(word, *parts[:place], other, *parts[place + 1:]), False, (word, other))

    def test_of_anything(self):
        for thing in odd_things():
            self.assertIs(is_deed(thing), False)
            self.assertIs(is_deed((thing, "a")), False)
            if not isinstance(thing, str):
                for many in range(1, 7):
                    self.assertIs(is_deed((thing,) * many), False)
            for word, parts in DEEDS.items():
                self.assertIs(self.told(word, *parts, thing), False)
                if len(parts) > 1:
                    self.assertIs(self.told(word, *[thing for part in parts[1:]]), False)

    def test_words_in_the_stead_of_each_other(self):
        forms = {word: tuple(type(part) for part in parts) for word, parts in DEEDS.items()}
        for one, other in itertools.product(DEEDS, DEEDS):
            self.assertIs(self.told(one, *DEEDS[other]), forms[one] == forms[other], (one, other))

    def test_by_name_and_nothing_changed(self):
        self.assertIs(is_deed(thing=("flow",)), True)
        self.assertRaises(TypeError, is_deed)
        wrong = ("come", "a", [5, 3])
        before = copy.deepcopy(wrong)
        self.assertIs(is_deed(wrong), False)
        self.assertEqual(wrong, before)


if __name__ == "__main__":
    unittest.main()
