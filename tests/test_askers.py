"""[11.1]: askers; [0.2] as far as it speaks of them."""

import unittest

from cases import Case
from heldhints.askers import Asker
from heldhints.errors import Busy, NoAsk, NoAsker, NoKey, NoKnown
from odd import no_words, odd_things

A1, A2, B1 = (1, "a", 1), (2, "a", 1), (1, "b", 1)
NO_KNOWN = [(A2, A1), (A1, A1), [A1], A1, (A1, None), {A1: True}, "", "a", 0, None, ((0, "a", 1),), ((1, "A", 1),)]


def no_known_things():
    """None of them is known; the empty tuple is."""
    return [thing for thing in odd_things() if not (isinstance(thing, tuple) and len(thing) == 0)] + NO_KNOWN


class Made(Case):
    def test_at_first(self):
        asker = Asker("me")
        self.assertEqual(asker.called(), "me")
        self.assertEqual((asker.known("k"), asker.words(), asker.tellings()), ((), [], []))
        self.assertIs(asker.busy(), None)
        self.assertEqual(len(asker), 0)

    def test_no_asker_of_anything(self):
        for thing in no_words():
            self.refuses(NoAsker, Asker, thing, asker=thing)
        for name in ("a", "abcdef"):
            self.assertEqual(Asker(name).called(), name)


class Learnt(Case):
    def test_new_and_known_dots(self):
        asker = Asker("me")
        self.assertIs(asker.learn("k", (B1,)), True)
        self.assertEqual(asker.known("k"), (B1,))
        self.assertIs(asker.learn("k", (B1,)), False)
        self.assertIs(asker.learn("k", ()), False)
        self.assertIs(asker.learn("k", (A1, B1)), True)
        self.assertEqual(asker.known("k"), (A1, B1))
        self.assertIs(asker.learn("k", (A1,)), False)
        self.assertIs(asker.learn("k", (A2,)), True)
        self.assertEqual(asker.known("k"), (A1, B1, A2))

    def test_each_key_by_itself(self):
        asker = Asker("me")
        asker.learn("z", (A1,))
        asker.learn("ab", (B1,))
        self.assertIs(asker.learn("k", ()), False)
        self.assertEqual(asker.words(), ["ab", "z"])
        self.assertEqual([asker.known(word) for word in ("ab", "k", "z")], [(B1,), (), (A1,)])

    def test_no_key(self):
        asker = Asker("me")
        for thing in no_words():
            self.refuses(NoKey, asker.known, thing)
            self.refuses(NoKey, asker.learn, thing, (A1,))
            self.refuses(NoKey, asker.learn, thing, None)
        self.assertEqual(asker.words(), [])

    def test_no_known(self):
        asker = Asker("me")
        asker.learn("k", (A1,))
        for thing in no_known_things():
            self.refuses(NoKnown, asker.learn, "k", thing)
            self.refuses(NoKnown, asker.learn, "z", thing)
        self.assertEqual((asker.words(), asker.known("k")), (["k"], (A1,)))


class Asked(Case):
    def test_begin_and_leave_off(self):
        asker = Asker("me")
        self.refuses(NoAsk, asker.leave_off, number=None)
        for number in (0, 7):
            self.assertIs(asker.begin(number), None)
            self.assertEqual(asker.busy(), number)
            for other in (0, 7, 8):
                self.refuses(Busy, asker.begin, other, what="me")
            self.assertEqual(asker.busy(), number)
            self.assertEqual(asker.leave_off(), number)
            self.assertIs(asker.busy(), None)
            self.refuses(NoAsk, asker.leave_off, number=None)
        self.assertEqual(asker.tellings(), [])

    def test_hear_of_the_ask_under_way(self):
        asker = Asker("me")
        asker.begin(3)
        self.assertIs(asker.hear(3, "k", [5, 7], (A1, B1)), True)
        self.assertIs(asker.busy(), None)
        self.assertEqual(asker.known("k"), (A1, B1))
        asker.begin(4)
        self.assertIs(asker.hear(4, "z", None, (A2,)), True)
        asker.begin(5)
        self.assertIs(asker.hear(5, "k", [], ()), True)
        self.assertEqual(asker.tellings(), [(3, "k", (5, 7)), (4, "z", None), (5, "k", ())])
        self.assertEqual((len(asker), asker.words(), asker.known("k")), (3, ["k", "z"], (A1, B1)))

    def test_hear_of_another_one(self):
        asker = Asker("me")
        for number in (0, 1, None, False, True):
            self.assertIs(asker.hear(number, "k", [5], (A1,)), False)
        asker.begin(1)
        for number in (0, 2, None, True, "1"):
            self.assertIs(asker.hear(number, "k", [5], (A1,)), False)
        self.assertEqual((asker.busy(), asker.tellings(), asker.words()), (1, [], []))
        asker.hear(1, "k", [5], (A1,))
        self.assertIs(asker.hear(1, "k", [6], (B1,)), False)
        self.assertEqual((asker.known("k"), len(asker)), ((A1,), 1))

    def test_hear_that_is_refused(self):
        asker = Asker("me")
        asker.begin(2)
        for thing in no_words():
            self.refuses(NoKey, asker.hear, 2, thing, [5], (A1,))
            self.refuses(NoKey, asker.hear, 2, thing, [5], None)
        for thing in no_known_things():
            self.refuses(NoKnown, asker.hear, 2, "k", [5], thing)
        self.assertEqual((asker.busy(), asker.tellings(), asker.words()), (2, [], []))
        self.assertIs(asker.hear(2, "k", [5], (A1,)), True)


class Kept(Case):
    def test_lists_are_neither_kept_nor_shared(self):
        asker = Asker("me")
        asker.begin(0)
        worths = [5, 7]
        asker.hear(0, "k", worths, (A1,))
        worths.append(9)
        for ask in (asker.tellings, asker.words):
            before = ask()
            self.assertIs(type(before), list)
            ask().clear()
            self.assertEqual(ask(), before)
        self.assertEqual(asker.tellings(), [(0, "k", (5, 7))])
        self.assertEqual(len(asker), 1)

    def test_twins_go_on_by_themselves(self):
        asker = Asker("me")
        asker.learn("k", (A1,))
        asker.begin(0)
        twin = asker.twin()
        self.are_alike(asker, twin)
        twin.hear(0, "z", [5], (B1,))
        twin.learn("k", (A2,))
        self.assertEqual((asker.busy(), asker.words(), asker.known("k"), asker.tellings()), (0, ["k"], (A1,), []))
        asker.leave_off()
        self.assertEqual((twin.busy(), len(twin), twin.known("k")), (None, 1, (A1, A2)))

    def test_alike_and_unlike(self):
        def made(called="me", known=(A1,), ask=None, heard=()):
            asker = Asker(called)
            asker.learn("k", known)
            for number, worths in heard:
                asker.begin(number)
                asker.hear(number, "k", worths, ())
            if ask is not None:
                asker.begin(ask)
            return asker

        self.are_alike(made(), made())
        self.are_alike(made(ask=0, heard=[(1, [5])]), made(ask=0, heard=[(1, [5])]))
        others = [made("you"), made(known=(B1,)), made(known=()), made(ask=0), made(ask=1), made(heard=[(0, [5])]),
                  made(heard=[(0, None)]), made(heard=[(0, [])]), made(heard=[(1, [5])])]
        for number, one in enumerate(others):
            self.are_unlike(one, made())
            for other in others[:number]:
                self.are_unlike(one, other)
        self.is_like_nothing_else(Asker("me"))

    def test_in_whatever_order_the_same_was_learnt(self):
        one, other = Asker("me"), Asker("me")
        for word, known in (("k", (A1,)), ("z", (B1,)), ("k", (A2,))):
            one.learn(word, known)
        for word, known in (("z", (B1,)), ("k", (A2,)), ("k", (A1,)), ("ab", ())):
            other.learn(word, known)
        self.are_alike(one, other)


class Arguments(Case):
    def test_by_names(self):
        asker = Asker(called="me")
        self.assertIs(asker.learn(known=(A1,), word="k"), True)
        self.assertEqual(asker.known(word="k"), (A1,))
        asker.begin(number=0)
        self.assertIs(asker.hear(known=(), worths=None, word="k", number=0), True)

    def test_none_may_be_left_out(self):
        asker = Asker("me")
        self.assertRaises(TypeError, Asker)
        self.assertRaises(TypeError, asker.learn, "k")
        self.assertRaises(TypeError, asker.begin)
        self.assertRaises(TypeError, asker.hear, 0, "k", [])


if __name__ == "__main__":
    unittest.main()
