"""What several files of tests ask of a refusal, and of things that are like nothing else."""

import unittest


class Case(unittest.TestCase):
    def refuses(self, refusal, call, *told, **fields):
        """The call is refused with just this error, with these fields."""
        with self.assertRaises(refusal) as caught:
            call(*told)
        self.assertIs(type(caught.exception), refusal)
        for name, wanted in fields.items():
            found = getattr(caught.exception, name)
            # By identity first: some things cannot be compared.
            if found is not wanted:
                self.assertIs(type(found), type(wanted))
                self.assertEqual(found, wanted)

    def is_like_nothing_else(self, thing):
        others = (None, True, False, 0, 1, "", "a", b"", (), [], {}, set(), object(), type(thing), thing.__dict__)
        for other in others:
            self.assertIs(thing == other, False)
            self.assertIs(other == thing, False)
            self.assertIs(thing != other, True)

    def are_alike(self, one, other):
        self.assertIs(one == other, True)
        self.assertIs(other == one, True)
        self.assertIs(one != other, False)

    def are_unlike(self, one, other):
        self.assertIs(one == other, False)
        self.assertIs(other == one, False)
        self.assertIs(one != other, True)
