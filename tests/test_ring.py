"""[2.1], [2.2]: places, keys and rings; [0.2] as far as it speaks of them."""

import copy
import itertools
import unittest

from cases import Case
from heldhints.errors import NoHouse, NoKey, NoRing
from heldhints.ring import Ring, is_key, is_place, place_of
from odd import Sour, no_wholes, no_words, odd_things

# Places by hand: a 1, c 3, z 26, ab 5 + 2, az 5 + 26, zz 130 + 26 = 156, less 128.
BY_HAND = {"a": 1, "c": 3, "z": 26, "ab": 7, "ba": 11, "az": 31, "zz": 28}


def marks_of(many):
    """So many unlike marks, of two houses in turns."""
    return [(number // 2, "ab"[number % 2]) for number in range(many)]


class Places(Case):
    def test_places_at_the_edges(self):
        for place in (0, 1, 31, 62, 63):
            self.assertIs(is_place(place), True, place)
        for place in (-1, 64, 65, -64, 10 ** 29, True, False, "0", None, (0,), [0], b"\0"):
            self.assertIs(is_place(place), False, place)

    def test_places_of_anything(self):
        for thing in no_wholes():
            self.assertIs(is_place(thing), False)

    def test_keys(self):
        for key in ("a", "z", "gone", "abcdef", "zzzzzz"):
            self.assertIs(is_key(key), True, key)
        for thing in no_words():
            self.assertIs(is_key(thing), False)

    def test_places_of_keys_by_hand(self):
        for key, place in BY_HAND.items():
            self.assertEqual(place_of(key), place, key)

    def test_place_of_six_letters_by_hand(self):
        # 1; 5 + 2 = 7; 35 + 3 = 38; 190 + 4 = 194, less 192: 2; 10 + 5 = 15; 75 + 6 = 81, less 64: 17.
        self.assertEqual(place_of("abcdef"), 17)
        # 26; 156: 28; 140 + 26 = 166: 38; 190 + 26 = 216: 24; 120 + 26 = 146: 18; 90 + 26 = 116: 52.
        self.assertEqual(place_of("zzzzzz"), 52)

    def test_places_of_keys_are_places(self):
        for letters in itertools.product("amz", repeat=3):
            self.assertIs(is_place(place_of("".join(letters))), True)

    def test_no_key_has_a_place(self):
        for thing in no_words():
            self.refuses(NoKey, place_of, thing)


class Marks(Case):
    def test_of_one_of_48_and_of_49(self):
        self.assertEqual(Ring([(0, "a")]).marks(), [(0, "a")])
        self.assertEqual(Ring(marks_of(48)).marks(), marks_of(48))
        self.refuses(NoRing, Ring, marks_of(49), number=None)
        self.refuses(NoRing, Ring, tuple(marks_of(49)), number=None)

    def test_of_none(self):
        self.refuses(NoRing, Ring, [], number=None)
        self.refuses(NoRing, Ring, (), number=None)

    def test_lists_and_tuples_in_any_order(self):
        marks = [(0, "c"), (5, "a"), (5, "b"), (63, "a")]
        for order in itertools.permutations(marks):
            for made in (Ring(list(order)), Ring(order)):
                self.assertEqual(made.marks(), marks)
                self.assertEqual(made.houses(), ["a", "b", "c"])

    def test_no_list_or_tuple_is_refused_with_none(self):
        for thing in odd_things():
            if not isinstance(thing, (list, tuple)):
                self.refuses(NoRing, Ring, thing, number=None)
        for thing in ({(0, "a"): 1}, {(0, "a")}, iter([(0, "a")]), Ring([(0, "a")]), "ab", 5):
            self.refuses(NoRing, Ring, thing, number=None)

    def test_the_first_thing_that_is_no_mark(self):
        for thing in odd_things():
            self.refuses(NoRing, Ring, [thing], number=0)
            self.refuses(NoRing, Ring, [(0, "a"), (0, "b"), thing, None], number=2)
            self.refuses(NoRing, Ring, ((0, "a"), (thing, "a"), (thing, "a")), number=1)
        for thing in no_words():
            self.refuses(NoRing, Ring, [(0, "a"), (1, thing)], number=1)
        for thing in ([0, "a"], (64, "a"), (-1, "a"), (True, "a"), (0,), (0, "a", "a"), ("a", 0), (0, "A"), "0a"):
            self.refuses(NoRing, Ring, [(1, "a"), (0, "b"), (2, "b"), thing], number=3)

    def test_the_first_thing_that_stood_ahead(self):
        self.refuses(NoRing, Ring, [(0, "a"), (0, "a")], number=1)
        self.refuses(NoRing, Ring, [(0, "a"), (0, "b"), (1, "a"), (0, "b"), (0, "a")], number=3)

    def test_two_faults_at_once(self):
        self.refuses(NoRing, Ring, [(0, "a"), (0, "a"), None], number=1)
        self.refuses(NoRing, Ring, [(0, "a"), None, (0, "a")], number=1)
        self.refuses(NoRing, Ring, [None, None], number=0)
        self.refuses(NoRing, Ring, [Sour(), Sour()], number=0)
        self.refuses(NoRing, Ring, marks_of(48) + [None], number=None)
        self.refuses(NoRing, Ring, [(0, "a")] * 49, number=None)
        self.refuses(NoRing, Ring, [(0, "a")] * 48, number=1)

    def test_houses_once_each(self):
        self.assertEqual(Ring([(3, "b"), (4, "b"), (0, "c"), (3, "a")]).houses(), ["a", "b", "c"])


class Order(Case):
    def setUp(self):
        self.ring = Ring([(10, "c"), (3, "b"), (3, "a"), (40, "b"), (60, "d")])

    def test_from_the_place_on(self):
        self.assertEqual(place_of("a"), 1)
        self.assertEqual(self.ring.order("a"), ["a", "b", "c", "d"])
        self.assertEqual(place_of("c"), 3)
        self.assertEqual(self.ring.order("c"), ["a", "b", "c", "d"])
        self.assertEqual(place_of("d"), 4)
        self.assertEqual(self.ring.order("d"), ["c", "b", "d", "a"])
        self.assertEqual(place_of("ba"), 11)
        self.assertEqual(self.ring.order("ba"), ["b", "d", "a", "c"])

    def test_from_behind_the_last_mark(self):
        self.assertEqual(place_of("af"), 11)
        self.assertEqual(Ring([(2, "b"), (10, "a")]).order("af"), ["b", "a"])
        self.assertEqual(Ring([(0, "b"), (10, "a")]).order("af"), ["b", "a"])

    def test_from_0_and_from_63(self):
        # l is 12, so ld is 64, less 64; lc is one less.
        self.assertEqual(place_of("ld"), 0)
        self.assertEqual(place_of("lc"), 63)
        ring = Ring([(0, "b"), (1, "c"), (63, "a")])
        self.assertEqual(ring.order("ld"), ["b", "c", "a"])
        self.assertEqual(ring.order("lc"), ["a", "b", "c"])
        self.assertEqual(Ring([(0, "b"), (62, "a")]).order("lc"), ["b", "a"])

    def test_several_houses_at_one_place_and_a_house_at_several(self):
        ring = Ring([(5, "c"), (5, "a"), (5, "b"), (6, "a"), (7, "a"), (8, "d")])
        self.assertEqual(place_of("e"), 5)
        self.assertEqual(ring.order("e"), ["a", "b", "c", "d"])
        self.assertEqual(place_of("f"), 6)
        self.assertEqual(ring.order("f"), ["a", "d", "b", "c"])

    def test_homes(self):
        for copies, wanted in ((0, []), (1, ["c"]), (2, ["c", "b"]), (3, ["c", "b", "d"])):
            self.assertEqual(self.ring.homes("d", copies), wanted)
        for copies in (4, 5, 99):
            self.assertEqual(self.ring.homes("d", copies), ["c", "b", "d", "a"])

    def test_no_key(self):
        for thing in no_words():
            self.refuses(NoKey, self.ring.order, thing)
            self.refuses(NoKey, self.ring.homes, thing, 2)
            self.refuses(NoKey, self.ring.homes, thing, None)


class Turned(Case):
    def setUp(self):
        self.ring = Ring([(10, "c"), (3, "b"), (60, "c")])

    def test_with_house(self):
        for places in ([5], (5,), [63, 3, 0], (10, 60)):
            made = self.ring.with_house("a", places)
            self.assertEqual(made.marks(), sorted(self.ring.marks() + [(place, "a") for place in places]))
            self.assertEqual(made.houses(), ["a", "b", "c"])
            self.assertEqual(self.ring.houses(), ["b", "c"])

    def test_with_house_that_is_no_word_or_is_there(self):
        for thing in no_words() + ["b", "c"]:
            for places in ([5], [], None, [64], [5, 5], Sour()):
                self.refuses(NoHouse, self.ring.with_house, thing, places, house=thing)

    def test_with_places_that_are_no_list_of_one_or_more(self):
        for thing in [thing for thing in odd_things() if not isinstance(thing, (list, tuple))] + [[], (), {5: 1}, {5}, 5]:
            self.refuses(NoRing, self.ring.with_house, "a", thing, number=None)

    def test_with_what_is_no_place_or_stood_ahead(self):
        for thing in no_wholes() + [-1, 64, True]:
            self.refuses(NoRing, self.ring.with_house, "a", [thing], number=0)
            self.refuses(NoRing, self.ring.with_house, "a", (1, 2, thing, 1), number=2)
        self.refuses(NoRing, self.ring.with_house, "a", [5, 5], number=1)
        self.refuses(NoRing, self.ring.with_house, "a", [5, 6, 7, 6, 5, 64], number=3)
        self.refuses(NoRing, self.ring.with_house, "a", [5, 64, 5], number=1)

    def test_with_too_many_marks(self):
        ring = Ring(marks_of(46))
        self.assertEqual(len(ring.with_house("c", [1, 2]).marks()), 48)
        self.refuses(NoRing, ring.with_house, "c", [1, 2, 3], number=None)
        self.refuses(NoRing, ring.with_house, "c", [1, 64, 3], number=None)
        self.refuses(NoRing, ring.with_house, "c", [1, 1, 1], number=None)
        self.refuses(NoRing, ring.with_house, "c", [1, 1], number=1)
        self.refuses(NoRing, Ring(marks_of(48)).with_house, "c", [5], number=None)
        self.refuses(NoRing, self.ring.with_house, "a", list(range(46)), number=None)
        self.assertEqual(len(self.ring.with_house("a", list(range(45))).marks()), 48)

    def test_without(self):
        self.assertEqual(self.ring.without("b").marks(), [(10, "c"), (60, "c")])
        self.assertEqual(self.ring.without("c").marks(), [(3, "b")])
        self.assertEqual(self.ring.houses(), ["b", "c"])

    def test_without_an_unknown_one(self):
        for thing in no_words() + ["a", "bc", "zzzzzz"]:
            self.refuses(NoHouse, self.ring.without, thing, house=thing)
            self.refuses(NoHouse, self.ring.without("c").without, thing, house=thing)

    def test_without_the_last_one(self):
        self.refuses(NoRing, self.ring.without("b").without, "c", number=None)
        self.refuses(NoRing, Ring([(0, "a")]).without, "a", number=None)

    def test_each_order_with_a_house_more_is_the_elder_one_with_it_put_in(self):
        keys = ["".join(letters) for letters in itertools.product("afkpz", repeat=2)]
        for places in ([0], [63], [10], [3, 60], [4, 5, 6], [0, 20, 40, 59, 61]):
            grown = self.ring.with_house("b" * 3, places).with_house("a", places)
            back = grown.without("a")
            for key in keys:
                elder = back.order(key)
                self.assertEqual([house for house in grown.order(key) if house != "a"], elder)
                self.assertEqual(sorted(grown.order(key)), sorted(elder + ["a"]))
            self.are_alike(back, self.ring.with_house("bbb", places))
            self.are_alike(back.without("bbb"), self.ring)


class Alike(Case):
    def test_alike_and_unlike(self):
        self.are_alike(Ring([(0, "a"), (1, "b")]), Ring(((1, "b"), (0, "a"))))
        for marks in ([(0, "a")], [(0, "b"), (1, "a")], [(0, "a"), (1, "b"), (2, "b")], [(0, "a"), (2, "b")]):
            self.are_unlike(Ring([(0, "a"), (1, "b")]), Ring(marks))

    def test_like_nothing_else(self):
        self.is_like_nothing_else(Ring([(0, "a")]))
        self.are_unlike(Ring([(0, "a")]), [(0, "a")])
        self.are_unlike(Ring([(0, "a")]), ((0, "a"),))

    def test_length_is_how_many_houses(self):
        self.assertEqual(len(Ring([(0, "a")])), 1)
        self.assertEqual(len(Ring([(0, "a"), (1, "a"), (1, "b")])), 2)
        self.assertEqual(len(Ring(marks_of(48))), 2)
        self.assertEqual(len(Ring([(0, "a"), (0, "b"), (0, "c")])), 3)


class Arguments(Case):
    def test_by_names(self):
        self.assertIs(is_key(thing="a"), True)
        self.assertIs(is_place(thing=0), True)
        self.assertEqual(place_of(key="a"), 1)
        ring = Ring(marks=[(0, "a"), (5, "b")])
        self.assertEqual(ring.order(key="a"), ["b", "a"])
        self.assertEqual(ring.homes(copies=1, key="a"), ["b"])
        self.assertEqual(ring.with_house(places=[9], house="c").houses(), ["a", "b", "c"])
        self.assertEqual(ring.without(house="a").houses(), ["b"])

    def test_none_may_be_left_out(self):
        ring = Ring([(0, "a")])
        for call in (Ring, place_of, ring.order, ring.homes, ring.with_house, ring.without):
            self.assertRaises(TypeError, call)
        self.assertRaises(TypeError, ring.homes, "a")
        self.assertRaises(TypeError, ring.with_house, "b")

    def test_what_is_handed_in_is_neither_changed_nor_kept(self):
        marks = [(9, "a"), (5, "b")]
        places = [7, 3]
        ring = Ring(marks)
        grown = ring.with_house("c", places)
        self.assertEqual((marks, places), ([(9, "a"), (5, "b")], [7, 3]))
        marks.append((0, "d"))
        places.clear()
        self.assertEqual(ring.marks(), [(5, "b"), (9, "a")])
        self.assertEqual(grown.marks(), [(3, "c"), (5, "b"), (7, "c"), (9, "a")])

    def test_what_is_refused_stays_as_it_was(self):
        ring = Ring([(9, "a"), (5, "b")])
        for wrong in ([(9, "a"), (5, "b"), (9, "a")], [None, (1, "a")]):
            before = copy.deepcopy(wrong)
            self.refuses(NoRing, Ring, wrong)
            self.assertEqual(wrong, before)
        self.refuses(NoRing, ring.with_house, "c", [1, 1])
        self.refuses(NoHouse, ring.without, "c")
        self.are_alike(ring, Ring([(5, "b"), (9, "a")]))

    def test_told_lists_are_the_askers_own(self):
        ring = Ring([(9, "a"), (5, "b")])
        asks = (ring.marks, ring.houses, lambda: ring.order("z"), lambda: ring.homes("z", 2))
        for ask in asks:
            before = list(ask())
            told = ask()
            self.assertIs(type(told), list)
            told.reverse()
            told.append((0, "c"))
            self.assertEqual(ask(), before)
        self.assertEqual(len(ring), 2)


if __name__ == "__main__":
    unittest.main()
