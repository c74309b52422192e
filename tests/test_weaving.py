"""[12.2]: all ends, and weavings in which a reading lacks or a gone worth comes back."""

import itertools
import unittest

from cases import Case
from drawn import REFUSALS
from heldhints.errors import NoShape, NoSteps, TooMany
from heldhints.judge import risen
from heldhints.ring import Ring
from heldhints.weaving import all_ends, lacking, lets_lack, lets_return, returning
from heldhints.world import World
from odd import no_wholes, odd_things
from worlds import all_of_it, four, plant

ALL_COUNTS = [(copies, write, read) for copies in range(1, 6)
              for write in range(1, copies + 1) for read in range(1, copies + 1)]


def no_counts():
    wrong = [(0, 0, 0), (6, 1, 1), (3, 4, 1), (3, 1, 4), (3, 0, 1), (3, 1, 0), (True, True, True), (3, True, 1), (3, 1, True),
             [3, 2, 2], (3, 2), (3, 2, 2, 2), (3, 2, None), ("3", 2, 2), "322", 3, (-1, -1, -1), (10 ** 29, 1, 1)]
    return odd_things() + wrong


def end(world):
    return (tuple(world.log()), tuple(world.one_house(name).state() for name in world.houses()))


def walked(world):
    """All stands and ends, by the words of the document: worlds compared with each other, one by one."""
    stands, ahead, ends = [world.twin()], [world.twin()], []
    while ahead:
        stand = ahead.pop(0)
        if not stand.letters() and end(stand) not in ends:
            ends.append(end(stand))
        for number, letter in stand.letters():
            later = stand.twin()
            later.do(("give", number))
            if not any(later == other and later.log() == other.log() for other in stands):
                stands.append(later)
                ahead.append(later)
    return (len(stands), sorted(ends, key=repr))


class AllEnds(Case):
    def test_without_letters(self):
        world = four()
        self.assertEqual(all_ends(world), (1, [end(world)]))
        self.assertEqual(all_ends(world, most=1), (1, [end(world)]))
        plant(world, "b", "k", (((1, "a", 1), (), 5),))
        world.do(("compare", "b", "c"))
        self.assertEqual(all_ends(world, most=1), (1, [((("compared", "b", "c", ("k",), 13),), end(world)[1])]))

    def test_with_one(self):
        world = four()
        world.do(("write", "me", "b", "k", 5))
        after = world.twin()
        after.do(("flow",))
        # A keep, the kept that comes of it, and none.
        self.assertEqual(all_ends(world), (3, [end(after)]))

    def test_with_two(self):
        world = four()
        world.do(("write", "me", "a", "k", 5))
        after = world.twin()
        after.do(("flow",))
        # Each letter is under way, or its answer is, or neither: in whatever order they come.
        self.assertEqual(all_ends(world), (9, [end(after)]))

    def test_unlike_logs_are_unlike_stands(self):
        world = four(write=1, copies=1, read=1)
        world.weave([("write", "me", "a", "k", 5), ("write", "you", "a", "z", 6)])
        many, ends = all_ends(world)
        # Where both were told in either order the logs are unlike.
        self.assertEqual((many, len(ends)), (10, 2))
        self.assertEqual(len({states for log, states in ends}), 1)

    def test_by_the_words_of_the_document(self):
        for deeds, parts in (
                ([("write", "me", "a", "k", 5), ("read", "you", "b", "k")], {}),
                ([("write", "me", "b", "k", 5), ("write", "you", "c", "k", 6), ("read", "we", "b", "k")], {"read": 1}),
                ([("doubt", "a", "b"), ("write", "me", "a", "k", 5), ("return", "d"), ("away", "c")], {"write": 1}),
                ([("write", "me", "b", "k", 5), ("twice", 0), ("read", "you", "c", "k")], {"mending": False})):
            world = four(**parts)
            world.weave(deeds)
            self.assertEqual(all_ends(world), walked(world))

    def test_each_once_by_repr(self):
        world = four()
        world.weave([("write", "me", "a", "k", 5), ("read", "you", "d", "k")])
        many, ends = all_ends(world)
        self.assertIs(type(ends), list)
        self.assertGreater(len(ends), 1)
        self.assertEqual(ends, sorted(ends, key=repr))
        self.assertEqual(len(ends), len(set(ends)))
        told = {row[3] for log, states in ends for row in log if row[0] == "told"}
        self.assertEqual(told, {(), (5,)})

    def test_just_so_many_and_one_fewer(self):
        for deeds in ([("write", "me", "a", "k", 5)], [("write", "me", "a", "k", 5), ("read", "you", "b", "k")]):
            world = four()
            world.weave(deeds)
            many, ends = all_ends(world)
            with_most = all_ends(world, most=many)
            self.assertEqual(with_most, (many, ends))
            for most in (1, many - 1):
                with self.assertRaises(TooMany) as caught:
                    all_ends(world, most=most)
                self.assertEqual(caught.exception.many, most)

    def test_no_steps(self):
        world = four()
        for most in (0, -1, 10 ** 6 + 1, True, False, 10 ** 29):
            self.assertRaises(NoSteps, all_ends, world, most=most)
        for thing in no_wholes():
            self.assertRaises(NoSteps, all_ends, world, most=thing)
        self.assertEqual(all_ends(world, most=10 ** 6)[0], 1)

    def test_the_world_stays(self):
        world = four()
        world.weave([("write", "me", "a", "k", 5), ("read", "you", "b", "k")])
        before = all_of_it(world)
        told = all_ends(world)
        self.assertEqual(all_of_it(world), before)
        told[1].clear()
        self.assertTrue(all_ends(world)[1])

    def test_two_letters_to_unlike_houses_make_no_more_stands(self):
        world = four(copies=4, write=4)
        world.do(("write", "me", "a", "k", 5))
        self.assertEqual(all_ends(world)[0], 3 ** 3)


def lacks_by_hand(counts, marks, deeds):
    """Whether some reading of a weaving of one key lacks, as the world itself tells it; False where something is refused.

    No asker of these weavings leaves a writing, so that each that is told is heard.
    """
    copies, write, read = counts
    world = World(Ring(marks), copies=copies, write=write, read=read, most=None)
    told, ahead, lacks = [], {}, False
    for deed in deeds:
        if deed[0] == "read":
            ahead[deed[1]] = list(told)
        try:
            things = world.do(deed)
        except REFUSALS:
            return False
        for thing in things:
            if thing[0] == "wrote":
                told.append(thing[3])
            if thing[0] == "told":
                came = [set(world.book().came_of(dot)) for dot in ahead[thing[1]]]
                lacks = lacks or not all(dots & set(thing[4]) for dots in came)
    return lacks


class Lacking(Case):
    def test_of_all_counts(self):
        for counts in ALL_COUNTS:
            copies, write, read = counts
            for strict in (True, False):
                told = lacking(counts, strict=strict)
                if strict and write + read > copies:
                    self.assertIs(told, None, counts)
                    continue
                self.assertIs(type(told), tuple)
                marks, deeds = told
                self.assertIs(type(deeds), list)
                self.assertIs(lets_lack(counts, told, strict=strict), True, counts)
                self.assertIs(lets_lack(counts, told, strict=False), True, counts)
                self.lacks_by_the_document(counts, marks, deeds)
            self.assertEqual(lacking(counts), lacking(counts, strict=True))

    def lacks_by_the_document(self, counts, marks, deeds):
        copies, write, read = counts
        world = World(Ring(marks), copies=copies, write=write, read=read, most=None)
        came = world.weave(deeds)
        reading = [thing for row in came for thing in row if thing[0] == "told"]
        writing = [thing for row in came for thing in row if thing[0] == "wrote"]
        self.assertEqual((len(reading), len(writing)), (1, 1))
        self.assertEqual(reading[0][2], writing[0][2])
        at = [number for number, deed in enumerate(deeds) if deed[0] == "read"][0]
        self.assertIn(writing[0], [thing for row in came[:at] for thing in row])
        self.assertNotIn(writing[0][3], reading[0][4])

    def test_stand_ins_alone_are_not_strict(self):
        for counts in ALL_COUNTS:
            copies, write, read = counts
            if write + read > copies:
                self.assertIs(lets_lack(counts, lacking(counts, strict=False)), False)

    def test_told_anew_each_time(self):
        for counts, strict in (((3, 1, 1), True), ((2, 2, 2), False)):
            told = lacking(counts, strict=strict)
            told[1].clear()
            if isinstance(told[0], list):
                told[0].clear()
            self.assertIs(lets_lack(counts, lacking(counts, strict=strict), strict=strict), True)


class LetsLack(Case):
    counts = (3, 1, 2)

    def setUp(self):
        self.marks, self.deeds = lacking(self.counts)

    def lets(self, deeds, strict=True, marks=None):
        return lets_lack(self.counts, (self.marks if marks is None else marks, deeds), strict=strict)

    def test_a_deed_left_out(self):
        for number in range(len(self.deeds)):
            self.assertIs(self.lets(self.deeds[:number] + self.deeds[number + 1:]), False, number)
        self.assertIs(self.lets([]), False)

    def test_a_deed_put_in(self):
        found = []
        for number in range(len(self.deeds) + 1):
            for deed in (("compare", "a", "b"), ("return", "a"), ("flow",), ("leave", "you"), ("give", 99), ("write", "we", "b", "k", 1)):
                deeds = self.deeds[:number] + [deed] + self.deeds[number:]
                found.append(self.lets(deeds))
                self.assertIs(found[-1], lacks_by_hand(self.counts, self.marks, deeds), (number, deed))
        self.assertEqual(set(found), {True, False})

    def test_a_deed_twice(self):
        for number, deed in enumerate(self.deeds):
            deeds = self.deeds[:number] + [deed] + self.deeds[number:]
            self.assertIs(self.lets(deeds), lacks_by_hand(self.counts, self.marks, deeds), (number, deed))

    def test_barred_deeds(self):
        strictly = (("doubt", "a", "b"), ("news", "a", "b"))
        always = (("lost", "a"), ("come", "x", (60,)), ("go", "a"), ("tick", 1))
        for deed in strictly + always:
            # At the end each of them is done, but those that are busy.
            self.assertIs(self.lets(self.deeds + [deed]), False, deed)
            self.assertIs(self.lets(self.deeds + [deed], strict=False), deed in strictly, deed)

    def test_refused_deeds_behind_the_reading(self):
        for deed in (("back", "a"), ("leave", "me"), ("give", 99), ("away", "x")):
            self.assertIs(self.lets(self.deeds + [deed]), False, deed)
        self.assertIs(self.lets(self.deeds + [("away", "a")]), True)

    def test_a_reading_of_another_key_lacks_nothing(self):
        deeds = [("write", "me", "a", "k", 1), ("read", "you", "b", "z"), ("flow",)]
        self.assertIs(self.lets(deeds), False)
        self.assertIs(self.lets(deeds[:1] + [("read", "you", "b", "k"), ("give", 3), ("give", 4)]), True)

    def test_a_writing_told_behind_the_reads_deed(self):
        """The reading is told behind the writing, and without it, but was begun ahead of it."""
        deeds = [("read", "you", "b", "k"), ("write", "me", "a", "k", 1), ("give", 1), ("give", 4)]
        world = World(Ring(self.marks), copies=3, write=1, read=2, most=None)
        self.assertEqual(world.weave(deeds)[-1], [("told", "you", "k", (), ())])
        self.assertIs(self.lets(deeds), False)

    def test_what_came_of_it_is_no_lack(self):
        """The reading tells no dot of the first writing, but of one whose writer knew it."""
        marks = [(11, "a"), (12, "b")]
        deeds = [("write", "me", "a", "k", 1), ("write", "me", "a", "k", 2), ("read", "you", "a", "k"), ("flow",)]
        self.assertIs(lets_lack((2, 1, 1), (marks, deeds)), False)
        self.assertIs(lets_lack((2, 1, 1), (marks, deeds[:2] + [("read", "you", "b", "k")])), True)
        # One that did not know it is none.
        deeds = [("write", "me", "a", "k", 1), ("write", "we", "b", "k", 2), ("read", "you", "b", "k")]
        self.assertIs(lets_lack((2, 1, 1), (marks, deeds)), True)

    def test_a_writing_that_nobody_hears_is_told_all_the_same(self):
        marks = [(11, "a"), (12, "b"), (13, "c")]
        deeds = [("write", "me", "a", "k", 1), ("leave", "me"), ("give", 0), ("give", 2), ("read", "you", "c", "k")]
        self.assertIs(lets_lack((3, 2, 1), (marks, deeds)), True)
        self.assertIs(lets_lack((3, 2, 1), (marks, deeds[:3] + deeds[4:])), False)

    def test_marks(self):
        for marks in (tuple(self.marks), self.marks[::-1]):
            self.assertIs(self.lets(self.deeds, marks=marks), True)
        for marks in ([], (), self.marks + self.marks[:1], self.marks[:2], [(64, "a")], "marks", Ring(self.marks)):
            self.assertIs(self.lets(self.deeds, marks=marks), False)

    def test_of_anything(self):
        things = odd_things() + [(self.marks,), (self.marks, self.deeds, "k"), [self.marks, self.deeds],
                                 (self.marks, tuple(self.deeds)), (self.deeds, self.marks), (self.marks, [None])]
        for thing in things:
            for strict in (True, False):
                self.assertIs(lets_lack(self.counts, thing, strict=strict), False)
        for thing in odd_things():
            self.assertIs(lets_lack(self.counts, (thing, self.deeds)), False)
            self.assertIs(lets_lack(self.counts, (self.marks, thing)), False)
            self.assertIs(lets_lack(self.counts, (self.marks, self.deeds + [thing])), False)

    def test_what_is_handed_in_stays(self):
        marks, deeds = list(self.marks), list(self.deeds)
        self.assertIs(lets_lack(self.counts, (marks, deeds)), True)
        self.assertEqual((marks, deeds), (self.marks, self.deeds))


class Returning(Case):
    def test_of_all_counts(self):
        for counts, keep in itertools.product(ALL_COUNTS, (1, 20, 10 ** 6)):
            told = returning(counts, keep=keep)
            if counts[0] == 1:
                self.assertIs(told, None)
                continue
            self.assertIs(type(told), tuple)
            marks, deeds, word = told
            self.assertIs(type(deeds), list)
            self.assertIs(lets_return(counts, told, keep=keep), True)
            copies, write, read = counts
            world = World(Ring(marks), copies=copies, write=write, read=read, most=None, keep=keep)
            world.weave(deeds)
            self.assertTrue(risen(world, word))
            if keep != 20:
                self.assertIs(lets_return(counts, told, keep=10 ** 6 if keep == 1 else 1), keep != 1)
        self.assertEqual(returning((3, 2, 2)), returning((3, 2, 2), keep=20))

    def test_a_deed_left_out(self):
        for counts in ((2, 1, 1), (3, 2, 2), (3, 3, 1)):
            marks, deeds, word = returning(counts)
            for number, deed in enumerate(deeds):
                left = deeds[:number] + deeds[number + 1:]
                if deed[0] in ("write", "gone", "tick") or number == len(deeds) - 1:
                    self.assertIs(lets_return(counts, (marks, left, word)), False, deed)

    def test_a_deed_put_in_and_twice(self):
        counts = (2, 2, 2)
        marks, deeds, word = returning(counts)
        for number, deed in enumerate(deeds):
            twice = deeds[:number] + [deed] + deeds[number:]
            # One that waits does not ask again, and a letter that was given is no more.
            self.assertIs(lets_return(counts, (marks, twice, word)), deed[0] in ("twice", "tick"), deed)
            refused = deeds[:number] + [("give", 99)] + deeds[number:]
            self.assertIs(lets_return(counts, (marks, refused, word)), False)
        # All words may stand in it.
        for deed in (("doubt", "a", "b"), ("news", "a", "b"), ("tick", 5), ("lost", "a"), ("compare", "a", "b")):
            self.assertIs(lets_return(counts, (marks, deeds + [deed], word)), True, deed)
        self.assertIs(lets_return(counts, (marks, deeds + [("lost", "a"), ("lost", "b")], word)), False)

    def test_another_key(self):
        marks, deeds, word = returning((2, 1, 1))
        self.assertIs(lets_return((2, 1, 1), (marks, deeds, "z")), False)

    def test_of_anything(self):
        counts = (2, 1, 1)
        marks, deeds, word = returning(counts)
        for thing in odd_things() + [(marks, deeds), (marks, deeds, word, word), [marks, deeds, word], (marks, tuple(deeds), word)]:
            self.assertIs(lets_return(counts, thing), False)
        for thing in odd_things():
            self.assertIs(lets_return(counts, (thing, deeds, word)), False)
            self.assertIs(lets_return(counts, (marks, thing, word)), False)
            self.assertIs(lets_return(counts, (marks, deeds, thing)), False)
            self.assertIs(lets_return(counts, (marks, [thing], word)), False)
        self.assertIs(lets_return((3, 1, 1), (marks, deeds, word)), False)

    def test_one_copy_may_be_let_by(self):
        """None is told of one copy, but one that has stand-ins comes back all the same."""
        marks = [(11, "a"), (12, "b")]
        deeds = [("doubt", "b", "a"), ("write", "me", "b", "k", 5), ("gone", "me", "a", "k"), ("tick", 20)]
        self.assertIs(lets_return((1, 1, 1), (marks, deeds, "k")), True)


class Refused(Case):
    def test_counts_of_anything(self):
        for thing in no_counts():
            for call in (lambda: lacking(thing), lambda: lacking(thing, strict=False), lambda: returning(thing),
                         lambda: lets_lack(thing, None), lambda: lets_return(thing, None),
                         lambda: returning(thing, keep=0), lambda: lets_return(thing, None, keep=0)):
                self.refuses(NoShape, call, what="counts")

    def test_keep_of_anything(self):
        for thing in no_wholes() + [0, -1, 10 ** 6 + 1, True, False]:
            self.refuses(NoShape, lambda: returning((2, 1, 1), keep=thing), what="keep")
            self.refuses(NoShape, lambda: returning((1, 1, 1), keep=thing), what="keep")
            self.refuses(NoShape, lambda: lets_return((2, 1, 1), None, keep=thing), what="keep")

    def test_by_names(self):
        told = lacking(strict=False, counts=(2, 2, 2))
        self.assertIs(lets_lack(strict=False, thing=told, counts=(2, 2, 2)), True)
        back = returning(keep=3, counts=(2, 2, 2))
        self.assertIs(lets_return(keep=3, thing=back, counts=(2, 2, 2)), True)
        self.assertEqual(all_ends(most=1, world=four())[0], 1)
        for call in (lambda: lacking((2, 2, 2), False), lambda: lets_lack((2, 2, 2), told, False),
                     lambda: returning((2, 2, 2), 3), lambda: lets_return((2, 2, 2), back, 3), lambda: all_ends(four(), 1)):
            self.assertRaises(TypeError, call)


if __name__ == "__main__":
    unittest.main()
