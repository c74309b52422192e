"""[5.1]: a house; [0.2] as far as it speaks of it."""

import copy
import unittest

from cases import Case
from heldhints.errors import NoCell
from heldhints.house import House
from odd import odd_things

A1, A2, A3 = (1, "a", 1), (2, "a", 1), (3, "a", 1)
B1, B2 = (1, "b", 1), (2, "b", 1)
C3 = (3, "c", 1)

FIRST = ((A1, (), 10),)
BESIDE = ((B1, (), 20),)
BOTH = FIRST + BESIDE
SECOND = ((A2, (A1,), 30),)
OVER_BOTH = ((A3, (A1, B1), 40),)
FADED = ((B2, (B1,), ("gone", 5)),)
FADED_LATE = ((C3, (), ("gone", 9)),)

NO_CELLS = [list(FIRST), BOTH[::-1], FIRST + FIRST, FIRST + SECOND, FIRST[0], (None,), FIRST + (None,), 0, 1, "a"]


def full_house():
    house = House("a")
    house.new_dot(())
    house.keep("k", BOTH)
    house.keep("d", FADED)
    house.keep("k", FADED_LATE, place="c")
    house.keep("k", SECOND, place="b")
    return house


class Made(Case):
    def test_at_first(self):
        house = House("a")
        self.assertEqual((house.called(), house.life(), house.counted()), ("a", 1, 0))
        self.assertEqual((house.words(), house.notes(), len(house)), ([], [], 0))
        self.assertEqual(house.state(), ("a", 1, 0, (), ()))
        self.assertEqual((house.cell("k"), house.note("k", "b"), house.all_of("k")), ((), (), ()))

    def test_of_another_life(self):
        self.assertEqual(House("abc", 4).state(), ("abc", 4, 0, (), ()))


class Dots(Case):
    def test_by_nothing_known(self):
        house = House("a")
        self.assertEqual(house.new_dot(()), A1)
        self.assertEqual(house.new_dot(()), A2)
        self.assertEqual(house.counted(), 2)

    def test_by_what_is_known_above_and_below_its_own_number(self):
        house = House("a", 3)
        self.assertEqual(house.new_dot(((7, "b", 1),)), (8, "a", 3))
        self.assertEqual(house.counted(), 8)
        self.assertEqual(house.new_dot(((2, "a", 1), (5, "c", 1))), (9, "a", 3))
        self.assertEqual(house.new_dot(((9, "b", 1),)), (10, "a", 3))
        self.assertEqual(house.new_dot(((11, "a", 2), (12, "a", 2))), (13, "a", 3))
        self.assertEqual(house.counted(), 13)

    def test_what_it_keeps_counts_not(self):
        house = House("a")
        house.keep("k", (((9, "b", 1), (), 5),))
        self.assertEqual(house.new_dot(()), A1)


class Kept(Case):
    def test_as_its_own(self):
        for place in (None, "a"):
            house = House("a")
            self.assertIs(house.keep("k", FIRST, place=place), None)
            self.assertEqual(house.cell("k"), FIRST)
            house.keep("k", BESIDE, place=place)
            self.assertEqual(house.cell("k"), BOTH)
            house.keep("k", SECOND, place=place)
            self.assertEqual(house.cell("k"), BESIDE + SECOND)
            house.keep("k", FIRST, place=place)
            self.assertEqual(house.cell("k"), BESIDE + SECOND)
            house.keep("k", (), place=place)
            self.assertEqual(house.cell("k"), BESIDE + SECOND)
            self.assertEqual((house.words(), house.notes()), (["k"], []))

    def test_as_a_note(self):
        house = House("a")
        house.keep("k", FIRST)
        self.assertIs(house.keep("k", BESIDE, place="b"), None)
        house.keep("k", SECOND, place="c")
        house.keep("k", FIRST, place="b")
        self.assertEqual(house.cell("k"), FIRST)
        self.assertEqual(house.note("k", "b"), BOTH)
        self.assertEqual(house.note("k", "c"), SECOND)
        self.assertEqual(house.note("k", "a"), ())
        self.assertEqual(house.note("d", "b"), ())
        self.assertEqual(house.notes(), [("k", "b"), ("k", "c")])
        house.keep("k", OVER_BOTH, place="b")
        self.assertEqual(house.note("k", "b"), OVER_BOTH)

    def test_nothing_is_none(self):
        house = House("a")
        house.keep("k", ())
        house.keep("k", (), place="b")
        self.are_alike(house, House("a"))

    def test_what_puts_itself_out_is_none(self):
        house = House("a")
        for place in (None, "b"):
            house.keep("k", ((A1, (B1,), 1),), place=place)
            house.keep("k", ((B1, (A1,), 2),), place=place)
        self.are_alike(house, House("a"))

    def test_sorted_words_and_notes(self):
        house = House("m")
        for word in ("z", "b", "ab"):
            house.keep(word, FIRST)
            for place in ("z", "a"):
                house.keep(word, FIRST, place=place)
        self.assertEqual(house.words(), ["ab", "b", "z"])
        self.assertEqual(house.notes(), [("ab", "a"), ("ab", "z"), ("b", "a"), ("b", "z"), ("z", "a"), ("z", "z")])
        self.assertEqual(len(house), 3)

    def test_all_of_joins_notes(self):
        house = full_house()
        self.assertEqual(house.all_of("k"), BESIDE + SECOND + FADED_LATE)
        self.assertEqual(house.all_of("d"), FADED)
        self.assertEqual(house.all_of("e"), ())
        house.keep("e", FIRST, place="b")
        self.assertEqual(house.all_of("e"), FIRST)
        self.assertEqual(house.cell("k"), BOTH)

    def test_all_of_joins_all_at_once(self):
        # Joined one behind the other FIRST would come back behind what its cut follower left.
        house = House("a")
        cut_one = ((A3, (A2,), 40),)
        house.keep("k", cut_one)
        house.keep("k", SECOND, place="b")
        house.keep("k", FIRST, place="c")
        self.assertEqual(house.all_of("k"), cut_one)


class Put(Case):
    def test_a_cell_becomes_another_one(self):
        house = full_house()
        self.assertIs(house.put_cell("k", SECOND), None)
        self.assertEqual(house.cell("k"), SECOND)
        self.assertIs(house.put_cell("e", FIRST), None)
        self.assertEqual(house.words(), ["d", "e", "k"])
        self.assertEqual(house.note("k", "b"), SECOND)

    def test_a_note_becomes_another_one(self):
        house = full_house()
        self.assertIs(house.put_note("k", "b", FIRST), None)
        self.assertEqual(house.note("k", "b"), FIRST)
        house.put_note("e", "b", BOTH)
        self.assertEqual(house.notes(), [("e", "b"), ("k", "b"), ("k", "c")])
        self.assertEqual(house.cell("k"), BOTH)

    def test_an_empty_one_goes(self):
        house = full_house()
        for word in ("k", "d", "e", "k"):
            self.assertIs(house.put_cell(word, ()), None)
        self.assertEqual((house.words(), len(house)), ([], 0))
        for place in ("b", "c", "d", "b"):
            self.assertIs(house.put_note("k", place, ()), None)
        self.assertEqual(house.notes(), [])
        self.assertEqual(house.state(), ("a", 1, 1, (), ()))

    def test_given_back_some_and_all(self):
        house = House("a")
        house.keep("k", BOTH + FADED_LATE, place="b")
        house.keep("k", BOTH, place="c")
        house.keep("k", BOTH)
        self.assertIs(house.given_back("k", "b", (B1,)), None)
        self.assertEqual(house.note("k", "b"), FIRST + FADED_LATE)
        house.given_back("k", "b", (A2, B2))
        self.assertEqual(house.note("k", "b"), FIRST + FADED_LATE)
        house.given_back("k", "b", [])
        self.assertEqual(house.note("k", "b"), FIRST + FADED_LATE)
        house.given_back("k", "b", [A1, B1, C3])
        self.assertEqual(house.notes(), [("k", "c")])
        self.assertEqual(house.note("k", "c"), BOTH)
        self.assertEqual(house.cell("k"), BOTH)

    def test_given_back_of_no_note(self):
        house = House("a")
        house.keep("k", BOTH)
        before = house.twin()
        house.given_back("k", "b", (A1,))
        house.given_back("k", "a", (A1,))
        house.given_back("e", "b", ())
        self.are_alike(house, before)

    def test_no_cell(self):
        house = full_house()
        before = house.twin()
        for thing in odd_things() + NO_CELLS:
            self.refuses(NoCell, house.keep, "k", thing)
            self.refuses(NoCell, house.keep, "e", thing)
            self.refuses(NoCell, lambda: house.keep("k", thing, place="a"))
            self.refuses(NoCell, lambda: house.keep("k", thing, place="b"))
            self.refuses(NoCell, lambda: house.keep("k", thing, place="d"))
            self.refuses(NoCell, house.put_cell, "k", thing)
            self.refuses(NoCell, house.put_cell, "e", thing)
            self.refuses(NoCell, house.put_note, "k", "b", thing)
            self.refuses(NoCell, house.put_note, "e", "c", thing)
        self.are_alike(house, before)


class Swept(Case):
    def test_ahead_of_at_and_behind_a_marks_time(self):
        for time, left in ((0, FADED + FADED_LATE), (4, FADED + FADED_LATE), (5, FADED_LATE), (8, FADED_LATE), (9, ()),
                           (10 ** 6, ())):
            house = House("a")
            house.keep("k", FADED + FADED_LATE)
            house.keep("d", FADED + FADED_LATE, place="b")
            told = house.sweep(time)
            self.assertIs(type(told), list)
            self.assertEqual(told, [dot for dot, known, worth in FADED + FADED_LATE if worth[1] <= time])
            self.assertEqual((house.cell("k"), house.note("d", "b")), (left, left))
            self.assertEqual(house.words(), ["k"] if left else [])
            self.assertEqual(house.notes(), [("d", "b")] if left else [])
            self.assertEqual(house.sweep(time), [])

    def test_marks_alone_go(self):
        house = House("a")
        house.keep("k", FIRST + FADED)
        house.keep("d", BESIDE)
        house.keep("d", SECOND + FADED_LATE, place="c")
        self.assertEqual(house.sweep(10 ** 6), [B2, C3])
        self.assertEqual(house.state(), ("a", 1, 0, (("d", BESIDE), ("k", FIRST)), (("d", "c", SECOND),)))

    def test_tells_the_dots_sorted_and_each_once(self):
        house = House("a")
        house.keep("a", FADED_LATE)
        house.keep("z", FADED)
        house.keep("k", ((A1, (), ("gone", 0)),), place="b")
        house.keep("k", FADED, place="c")
        self.assertEqual(house.sweep(9), [A1, B2, C3])
        self.assertEqual(house.state(), ("a", 1, 0, (), ()))


class Told(Case):
    def test_state(self):
        self.assertEqual(full_house().state(), (
            "a", 1, 1, (("d", FADED), ("k", BOTH)), (("k", "b", SECOND), ("k", "c", FADED_LATE))))

    def test_loses_all(self):
        house = full_house()
        self.assertIs(house.lose_all(), None)
        self.assertEqual(house.state(), ("a", 2, 0, (), ()))
        self.assertEqual(house.new_dot(()), (1, "a", 2))
        house.lose_all()
        self.assertEqual((house.life(), house.counted(), len(house)), (3, 0, 0))
        self.are_alike(house, House("a", 3))

    def test_alike_whatever_the_order(self):
        one, other = House("a"), House("a")
        one.keep("k", FIRST)
        one.keep("k", BESIDE)
        one.keep("d", FIRST, place="b")
        one.keep("c", FIRST)
        other.keep("c", FIRST)
        other.keep("d", FIRST, place="b")
        other.keep("k", BESIDE)
        other.keep("k", FIRST)
        self.are_alike(one, other)
        self.assertEqual(one.state(), other.state())

    def test_unlike(self):
        turns = [
            lambda house: house.new_dot(()),
            lambda house: house.lose_all(),
            lambda house: house.keep("k", OVER_BOTH),
            lambda house: house.keep("e", FIRST),
            lambda house: house.put_cell("k", ((A1, (), 11),) + BESIDE),
            lambda house: house.put_note("k", "b", ()),
            lambda house: house.put_note("k", "d", FIRST),
        ]
        for turn in turns:
            house = full_house()
            self.are_alike(house, full_house())
            turn(house)
            self.are_unlike(house, full_house())
        self.are_unlike(House("a"), House("b"))
        self.are_unlike(House("a"), House("a", 2))
        self.is_like_nothing_else(House("a"))
        self.are_unlike(House("a"), ("a", 1, 0, (), ()))

    def test_twins_go_on_by_themselves(self):
        house = full_house()
        twin = house.twin()
        self.are_alike(house, twin)
        twin.new_dot(())
        twin.keep("e", FIRST)
        twin.given_back("k", "b", (A2,))
        twin.sweep(9)
        self.are_alike(house, full_house())
        kept = twin.twin()
        house.lose_all()
        self.are_alike(twin, kept)
        self.assertEqual(twin.state(), ("a", 1, 2, (("e", FIRST), ("k", BOTH)), ()))

    def test_told_lists_are_the_askers_own(self):
        house = full_house()
        for ask in (house.words, house.notes):
            told = ask()
            self.assertIs(type(told), list)
            told.clear()
        house.sweep(0).append(A1)
        self.are_alike(house, full_house())
        self.assertEqual((house.words(), house.notes()), (["d", "k"], [("k", "b"), ("k", "c")]))


class Arguments(Case):
    def test_by_names(self):
        house = House(life=2, called="a")
        self.assertEqual(house.new_dot(known=(A1,)), (2, "a", 2))
        house.keep(place="b", cell=BOTH, word="k")
        house.keep(cell=FIRST, word="k")
        self.assertEqual(house.cell(word="k"), FIRST)
        self.assertEqual(house.note(place="b", word="k"), BOTH)
        self.assertEqual(house.all_of(word="k"), BOTH)
        house.given_back(dots=(A1,), place="b", word="k")
        self.assertEqual(house.note("k", "b"), BESIDE)
        house.put_cell(cell=FADED, word="k")
        house.put_note(cell=(), place="b", word="k")
        self.assertEqual(house.sweep(time=5), [B2])

    def test_the_place_by_its_name_alone(self):
        self.assertRaises(TypeError, House("a").keep, "k", FIRST, "b")

    def test_none_else_may_be_left_out(self):
        house = House("a")
        calls = (House, house.new_dot, house.keep, house.cell, house.note, house.all_of, house.given_back, house.put_cell,
                 house.put_note, house.sweep)
        for call in calls:
            self.assertRaises(TypeError, call)
        for call in (house.keep, house.note, house.put_cell):
            self.assertRaises(TypeError, call, "k")
        for call in (house.given_back, house.put_note):
            self.assertRaises(TypeError, call, "k", "b")

    def test_what_is_handed_in_stays_as_it_was(self):
        house = full_house()
        dots = [A2, B1]
        house.given_back("k", "b", dots)
        self.assertEqual(dots, [A2, B1])
        wrong = [list(FIRST[0])]
        before = copy.deepcopy(wrong)
        self.refuses(NoCell, house.keep, "k", wrong)
        self.assertEqual(wrong, before)


if __name__ == "__main__":
    unittest.main()
