"""[6.1] to [6.3]: targets, writings and readings; [0.2] as far as it speaks of them."""

import copy
import itertools
import unittest

from cases import Case
from heldhints.asks import Reading, Writing, targets
from heldhints.cells import joined
from heldhints.errors import NoCell
from odd import odd_things

A1, A2, A3 = (1, "a", 1), (2, "a", 1), (3, "a", 1)
B1, B2 = (1, "b", 1), (2, "b", 1)

FIRST = ((A1, (), 10),)
BESIDE = ((B1, (), 20),)
BOTH = FIRST + BESIDE
SECOND = ((A2, (A1,), 30),)
OVER_BOTH = ((A3, (A1, B1), 40),)
FADED = ((B2, (B1,), ("gone", 5)),)
VERSION = FIRST[0]

TARGETS = [("a", None), ("b", None), ("d", "c")]
NO_CELLS = [list(FIRST), BOTH[::-1], FIRST + FIRST, FIRST + SECOND, FIRST[0], (None,), 0, 1, "a"]


def all_but(*away):
    return lambda house: house not in away


class Targets(Case):
    def test_all_homes_here(self):
        self.assertEqual(targets(["c", "a", "b", "d"], 3, all_but()), [("c", None), ("a", None), ("b", None)])
        self.assertEqual(targets(["c", "a", "b", "d"], 3, all_but("d")), [("c", None), ("a", None), ("b", None)])
        self.assertEqual(targets(["c", "a"], 1, all_but()), [("c", None)])

    def test_some_away_with_spare_ones_behind(self):
        order = ["c", "a", "b", "e", "d"]
        self.assertEqual(targets(order, 3, all_but("c")), [("e", "c"), ("a", None), ("b", None)])
        self.assertEqual(targets(order, 3, all_but("b")), [("c", None), ("a", None), ("e", "b")])
        self.assertEqual(targets(order, 3, all_but("a", "c")), [("e", "c"), ("d", "a"), ("b", None)])

    def test_more_away_than_spare_ones(self):
        order = ["c", "a", "b", "e"]
        self.assertEqual(targets(order, 3, all_but("a", "b")), [("c", None), ("e", "a")])
        self.assertEqual(targets(order, 3, all_but("a", "b", "c")), [("e", "c")])
        self.assertEqual(targets(order, 4, all_but("a")), [("c", None), ("b", None), ("e", None)])

    def test_spare_ones_away_too(self):
        order = ["c", "a", "b", "e", "d"]
        self.assertEqual(targets(order, 2, all_but("a", "b")), [("c", None), ("e", "a")])
        self.assertEqual(targets(order, 2, all_but("c", "a", "e")), [("b", "c"), ("d", "a")])
        self.assertEqual(targets(order, 2, all_but("a", "b", "d", "e")), [("c", None)])
        self.assertEqual(targets(order, 2, all_but(*order)), [])

    def test_one_house(self):
        self.assertEqual(targets(["a"], 1, all_but()), [("a", None)])
        self.assertEqual(targets(["a"], 1, all_but("a")), [])

    def test_more_copies_than_houses(self):
        self.assertEqual(targets(["b", "a"], 5, all_but()), [("b", None), ("a", None)])
        self.assertEqual(targets(["b", "a"], 5, all_but("b")), [("a", None)])

    def test_of_all_absences(self):
        """The document's words: home by home, the next spare house that is here and no target yet."""
        order = ["d", "b", "e", "a", "c"]
        for copies in range(1, 6):
            for many in range(6):
                for away in itertools.combinations(order, many):
                    wanted = []
                    for home in order[:copies]:
                        free = [house for house in order[copies:]
                                if house not in away and house not in [one for one, stead in wanted]]
                        if home not in away:
                            wanted.append((home, None))
                        elif free:
                            wanted.append((free[0], home))
                    self.assertEqual(targets(order, copies, all_but(*away)), wanted)

    def test_what_is_handed_in_stays_and_what_is_told_is_new(self):
        order = ["c", "a", "b", "e"]
        told = targets(order, 2, all_but("c"))
        self.assertIs(type(told), list)
        told.clear()
        self.assertEqual(order, ["c", "a", "b", "e"])
        self.assertEqual(targets(order, 2, all_but("c")), [("b", "c"), ("a", None)])
        self.assertEqual(targets(tuple(order), 2, all_but("c")), [("b", "c"), ("a", None)])


class Writings(Case):
    def test_at_first(self):
        writing = Writing("k", VERSION, TARGETS, 2)
        self.assertEqual((writing.word(), writing.version(), writing.targets()), ("k", VERSION, TARGETS))
        self.assertEqual(writing.held(), [])
        self.assertIs(writing.is_told(), False)

    def test_true_by_the_very_answer_that_makes_enough(self):
        for need in (1, 2, 3):
            for order in itertools.permutations(["a", "b", "d"]):
                writing = Writing("k", VERSION, TARGETS, need)
                for number, called in enumerate(order, start=1):
                    self.assertIs(writing.answered(called), number == need)
                    self.assertIs(writing.is_told(), number >= need)
                    self.assertEqual(writing.held(), list(order[:number]))

    def test_strangers(self):
        writing = Writing("k", VERSION, TARGETS, 1)
        # The home c itself is none of the targets: d stands in for it.
        for called in ("c", "e", "ab", "", None, 5, ("a", None)):
            self.assertIs(writing.answered(called), False)
        self.assertEqual((writing.held(), writing.is_told()), ([], False))
        self.assertIs(writing.answered("d"), True)

    def test_twice(self):
        writing = Writing("k", VERSION, TARGETS, 2)
        self.assertIs(writing.answered("a"), False)
        self.assertIs(writing.answered("a"), False)
        self.assertEqual((writing.held(), writing.is_told()), (["a"], False))
        self.assertIs(writing.answered("d"), True)
        self.assertIs(writing.answered("d"), False)
        self.assertIs(writing.answered("a"), False)
        self.assertEqual(writing.held(), ["a", "d"])
        self.assertIs(writing.answered("b"), False)
        self.assertEqual(writing.held(), ["a", "d", "b"])

    def test_need_above_how_many_targets_there_are(self):
        writing = Writing("k", VERSION, TARGETS, 4)
        for called in ("a", "b", "d", "a"):
            self.assertIs(writing.answered(called), False)
        self.assertIs(writing.is_told(), False)
        self.assertIs(Writing("k", VERSION, [], 1).answered("a"), False)

    def test_twins_go_on_by_themselves(self):
        writing = Writing("k", VERSION, TARGETS, 2)
        writing.answered("b")
        twin = writing.twin()
        self.assertEqual((twin.word(), twin.version(), twin.targets()), ("k", VERSION, TARGETS))
        self.assertEqual((twin.held(), twin.is_told()), (["b"], False))
        self.assertIs(twin.answered("a"), True)
        self.assertEqual((writing.held(), writing.is_told()), (["b"], False))
        self.assertIs(writing.answered("d"), True)
        self.assertEqual((twin.held(), twin.is_told()), (["b", "a"], True))

    def test_lists_are_neither_kept_nor_shared(self):
        some = list(TARGETS)
        writing = Writing("k", VERSION, some, 2)
        some.clear()
        writing.answered("a")
        for ask in (writing.targets, writing.held):
            before = ask()
            self.assertIs(type(before), list)
            ask().clear()
            self.assertEqual(ask(), before)
        self.assertIs(writing.answered("d"), True)
        self.assertEqual(Writing("k", VERSION, tuple(TARGETS), 2).targets(), TARGETS)


class Readings(Case):
    def test_at_first(self):
        reading = Reading("k", TARGETS, 2)
        self.assertEqual((reading.word(), reading.targets(), reading.held()), ("k", TARGETS, []))
        self.assertIs(reading.is_told(), False)
        self.assertIs(reading.told(), None)
        self.assertEqual(reading.cell(), ())

    def test_told_by_the_answer_that_makes_enough(self):
        reading = Reading("k", TARGETS, 2)
        reading.answered("a", FIRST)
        self.assertIs(reading.told(), None)
        self.assertIs(reading.is_told(), False)
        self.assertEqual(reading.cell(), FIRST)
        reading.answered("d", BESIDE)
        self.assertIs(reading.is_told(), True)
        self.assertEqual(reading.told(), ([10, 20], (A1, B1)))
        self.assertEqual(reading.cell(), BOTH)

    def test_told_stays_when_later_answers_come(self):
        reading = Reading("k", TARGETS, 1)
        reading.answered("b", BESIDE)
        for called, cell in (("a", SECOND), ("d", OVER_BOTH)):
            reading.answered(called, cell)
            self.assertEqual(reading.told(), ([20], (B1,)))
        self.assertEqual(reading.cell(), joined([joined([BESIDE, SECOND]), OVER_BOTH]))
        self.assertEqual(reading.held(), ["b", "a", "d"])

    def test_marks_are_known_and_told_no_worths(self):
        reading = Reading("k", TARGETS, 2)
        reading.answered("a", FIRST)
        reading.answered("b", FADED)
        self.assertEqual(reading.told(), ([10], (A1, B1, B2)))

    def test_nothing_is_told_of_empty_cells(self):
        reading = Reading("k", TARGETS, 2)
        self.assertEqual(reading.answered("a", ()), [])
        self.assertEqual(reading.answered("b", ()), [])
        self.assertEqual(reading.told(), ([], ()))
        self.assertEqual(reading.answered("d", FIRST), [])

    def test_whom_to_mend_by_the_answer_that_makes_enough(self):
        reading = Reading("k", TARGETS, 3)
        self.assertEqual(reading.answered("d", FIRST), [])
        self.assertEqual(reading.answered("a", ()), [])
        self.assertEqual(reading.answered("b", BOTH), [("d", "c"), ("a", None)])
        reading = Reading("k", TARGETS, 3)
        self.assertEqual(reading.answered("b", SECOND), [])
        self.assertEqual(reading.answered("d", FIRST), [])
        self.assertEqual(reading.answered("a", BESIDE), [("b", None), ("d", "c"), ("a", None)])
        reading = Reading("k", TARGETS, 2)
        self.assertEqual(reading.answered("b", BOTH), [])
        self.assertEqual(reading.answered("d", BOTH), [])

    def test_whom_to_mend_where_one_must_answer(self):
        reading = Reading("k", TARGETS, 1)
        self.assertEqual(reading.answered("d", FIRST), [])

    def test_whom_to_mend_by_later_answers(self):
        reading = Reading("k", TARGETS, 1)
        self.assertEqual(reading.answered("a", BOTH), [])
        self.assertEqual(reading.answered("d", FIRST), [("d", "c")])
        self.assertEqual(reading.answered("b", BOTH), [])
        reading = Reading("k", TARGETS, 1)
        reading.answered("a", FIRST)
        # The later one has more than the joined cell had: it is alike then, and the elder one is not mended any more.
        self.assertEqual(reading.answered("d", SECOND), [])
        self.assertEqual(reading.answered("b", FIRST), [("b", None)])
        reading = Reading("k", TARGETS, 1)
        reading.answered("a", FIRST)
        self.assertEqual(reading.answered("b", BESIDE), [("b", None)])
        self.assertEqual(reading.cell(), BOTH)

    def test_joined_one_behind_the_other(self):
        cut_one = ((A3, (A2,), 40),)
        reading = Reading("k", TARGETS, 3)
        for called, cell in (("a", SECOND), ("b", cut_one), ("d", FIRST)):
            reading.answered(called, cell)
        self.assertEqual(reading.cell(), FIRST + cut_one)
        self.assertEqual(joined([SECOND, cut_one, FIRST]), cut_one)

    def test_strangers_and_twice(self):
        reading = Reading("k", TARGETS, 1)
        for called in ("c", "e", "", None, 5, ("a", None)):
            self.assertEqual(reading.answered(called, OVER_BOTH), [])
        self.assertEqual((reading.held(), reading.told(), reading.cell()), ([], None, ()))
        reading.answered("a", BOTH)
        self.assertEqual(reading.answered("a", FIRST), [])
        self.assertEqual(reading.answered("a", OVER_BOTH), [])
        self.assertEqual((reading.held(), reading.told(), reading.cell()), (["a"], ([10, 20], (A1, B1)), BOTH))

    def test_twice_makes_not_enough(self):
        reading = Reading("k", TARGETS, 2)
        reading.answered("a", FIRST)
        self.assertEqual(reading.answered("a", BESIDE), [])
        self.assertIs(reading.is_told(), False)
        self.assertEqual(reading.cell(), FIRST)

    def test_need_above_how_many_targets_there_are(self):
        reading = Reading("k", TARGETS, 4)
        for called in ("a", "b", "d"):
            self.assertEqual(reading.answered(called, FIRST if called == "b" else BOTH), [])
        self.assertIs(reading.told(), None)
        self.assertIs(reading.is_told(), False)
        self.assertEqual(reading.cell(), BOTH)

    def test_no_cell(self):
        reading = Reading("k", TARGETS, 1)
        reading.answered("a", FIRST)
        for thing in odd_things() + NO_CELLS:
            for called in ("b", "a", "c"):
                self.refuses(NoCell, reading.answered, called, thing)
        self.assertEqual((reading.held(), reading.told(), reading.cell()), (["a"], ([10], (A1,)), FIRST))

    def test_lists_are_neither_kept_nor_shared(self):
        some = list(TARGETS)
        reading = Reading("k", some, 2)
        some.clear()
        reading.answered("a", FIRST)
        mended = reading.answered("d", BESIDE)
        self.assertEqual(mended, [("a", None), ("d", "c")])
        mended.clear()
        for ask in (reading.targets, reading.held):
            before = ask()
            self.assertIs(type(before), list)
            ask().clear()
            self.assertEqual(ask(), before)
        told = reading.told()
        self.assertIs(type(told), tuple)
        self.assertIs(type(told[0]), list)
        told[0].append(99)
        self.assertEqual(reading.told(), ([10, 20], (A1, B1)))
        self.assertEqual(reading.answered("b", ()), [("b", None)])

    def test_twins_go_on_by_themselves(self):
        reading = Reading("k", TARGETS, 2)
        reading.answered("d", FIRST)
        twin = reading.twin()
        self.assertEqual((twin.word(), twin.targets(), twin.held()), ("k", TARGETS, ["d"]))
        self.assertEqual((twin.told(), twin.cell()), (None, FIRST))
        self.assertEqual(twin.answered("a", BOTH), [("d", "c")])
        self.assertEqual((reading.held(), reading.told(), reading.cell()), (["d"], None, FIRST))
        self.assertEqual(reading.answered("b", SECOND), [("d", "c")])
        self.assertEqual((twin.held(), twin.told(), twin.cell()), (["d", "a"], ([10, 20], (A1, B1)), BOTH))
        told_twin = twin.twin()
        self.assertEqual(told_twin.told(), ([10, 20], (A1, B1)))
        self.assertEqual(told_twin.answered("b", FIRST), [("b", None)])
        self.assertEqual(twin.held(), ["d", "a"])


class Arguments(Case):
    def test_by_names(self):
        self.assertEqual(targets(here=all_but("a"), copies=1, order=["a", "b"]), [("b", "a")])
        writing = Writing(need=1, some=TARGETS, version=VERSION, word="k")
        self.assertIs(writing.answered(called="a"), True)
        reading = Reading(need=1, some=TARGETS, word="k")
        self.assertEqual(reading.answered(cell=FIRST, called="a"), [])
        self.assertEqual(reading.told(), ([10], (A1,)))

    def test_none_may_be_left_out(self):
        writing, reading = Writing("k", VERSION, TARGETS, 1), Reading("k", TARGETS, 1)
        self.assertRaises(TypeError, targets, ["a"], 1)
        self.assertRaises(TypeError, Writing, "k", VERSION, TARGETS)
        self.assertRaises(TypeError, Reading, "k", TARGETS)
        self.assertRaises(TypeError, writing.answered)
        self.assertRaises(TypeError, reading.answered, "a")

    def test_what_is_handed_in_stays_as_it_was(self):
        some = list(TARGETS)
        before = copy.deepcopy(some)
        Writing("k", VERSION, some, 1).answered("a")
        Reading("k", some, 1).answered("a", FIRST)
        self.assertEqual(some, before)


if __name__ == "__main__":
    unittest.main()
