"""The interface of heldhints/errors.py."""

import copy
import inspect
import pickle
import unittest

from heldhints import errors
from odd import Sour

HINT = errors.HintError
REFUSALS = {
    "NoVersion": (HINT, []),
    "NoCell": (HINT, []),
    "NoRing": (HINT, ["number"]),
    "NoKey": (HINT, []),
    "NoShape": (HINT, ["what"]),
    "NoKnown": (HINT, []),
    "NoDeed": (HINT, ["number"]),
    "NoNews": (HINT, ["house"]),
    "NoText": (HINT, ["row"]),
    "NoRow": (HINT, []),
    "NoSteps": (HINT, []),
    "NoHouse": (KeyError, ["house"]),
    "NoAsker": (KeyError, ["asker"]),
    "NoAsk": (LookupError, ["number"]),
    "NoLetter": (LookupError, ["number"]),
    "Busy": (RuntimeError, ["what"]),
    "Away": (RuntimeError, ["house"]),
    "TooMany": (OverflowError, ["many"]),
    "NoWorld": (LookupError, []),
}


def refusals():
    return [(getattr(errors, name), above, fields) for name, (above, fields) in REFUSALS.items()]


class Errors(unittest.TestCase):
    def test_each_stands_straight_under_its_class(self):
        self.assertEqual(HINT.__bases__, (ValueError,))
        for refusal, above, fields in refusals():
            self.assertEqual(refusal.__bases__, (above,), refusal)

    def test_there_are_no_others(self):
        classes = [name for name, thing in vars(errors).items() if inspect.isclass(thing)]
        self.assertEqual(sorted(classes), sorted(list(REFUSALS) + ["HintError"]))

    def test_each_is_defined_there(self):
        for refusal, above, fields in refusals():
            self.assertEqual(refusal.__module__, "heldhints.errors")

    def test_none_is_under_another_one(self):
        for one, above, fields in refusals():
            for other, other_above, other_fields in refusals():
                self.assertEqual(issubclass(one, other), one == other, (one, other))
            self.assertEqual(issubclass(one, HINT), above == HINT, one)

    def test_fields_by_place_and_by_name(self):
        for refusal, above, fields in refusals():
            for value in (None, 0, 7, "abc", (1, 2), [3], True, Sour()):
                by_place = refusal(*[value for field in fields])
                by_name = refusal(**{field: value for field in fields})
                for made in (by_place, by_name):
                    self.assertEqual(sorted(vars(made)), fields)
                    for field in fields:
                        self.assertIs(getattr(made, field), value, refusal)

    def test_made_of_these_values_alone(self):
        for refusal, above, fields in refusals():
            with self.assertRaises(TypeError):
                refusal(*range(len(fields) + 1))
            with self.assertRaises(TypeError):
                refusal(**{name: 1 for name in fields + ["other"]})
            if fields:
                with self.assertRaises(TypeError):
                    refusal()

    def test_raised_and_caught_by_the_class_above(self):
        for refusal, above, fields in refusals():
            with self.assertRaises(above) as caught:
                raise refusal(*[5 for field in fields])
            self.assertIsInstance(caught.exception, refusal)
            self.assertIsInstance(str(caught.exception), str)

    def test_a_copy_has_the_same_fields(self):
        for refusal, above, fields in refusals():
            made = refusal(*[5 for field in fields])
            for twin in (copy.copy(made), pickle.loads(pickle.dumps(made))):
                self.assertIsInstance(twin, refusal)
                self.assertEqual(vars(twin), vars(made))


if __name__ == "__main__":
    unittest.main()
