"""[7.1] and what [7.2] says of deeds' forms, of refusals and of weavings; [0.2] as far as it speaks of a World."""

import itertools
import unittest

from cases import Case
from drawn import REFUSALS, drawn_deed, drawn_world, draws
from heldhints.errors import Away, Busy, NoAsk, NoAsker, NoDeed, NoHouse, NoLetter, NoShape
from heldhints.house import House
from heldhints.news import News
from heldhints.ring import Ring
from heldhints.shape import Shape
from heldhints.world import World
from odd import no_wholes, no_words, odd_things
from worlds import MARKS, all_of_it, four

RING = Ring([(10 * number, house) for number, house in enumerate("abcdef")])
SMALL = Ring([(0, "a"), (9, "b")])
WRONG = {"ring": None, "copies": 6, "write": 0, "read": 9, "most": -1, "keep": 0}

# A deed of each form, that a new world of the houses a to d does not refuse, but those of letters and askers.
DEEDS = [("write", "me", "a", "k", 5), ("gone", "me", "a", "k"), ("read", "me", "a", "k"), ("leave", "me"), ("give", 0),
         ("twice", 0), ("lose", 0), ("flow",), ("away", "a"), ("back", "a"), ("lost", "a"), ("doubt", "a", "b"),
         ("news", "a", "b"), ("return", "a"), ("compare", "a", "b"), ("come", "e", (5, 3)), ("go", "a"), ("tick", 1)]


def no_deeds():
    wrong = [list(DEEDS[0]), DEEDS[0] + (5,), DEEDS[0][:4], ("write", "me", "a", "k", ("gone", 0)), ("write", "me", "a", "k", True),
             ("write", "me", "a", "k", 10 ** 9 + 1), ("gone", "me", "a", "k", 5), ("give", -1), ("give", True), ("flow", ()),
             ("come", "e", ()), ("come", "e", [5]), ("come", "e", (5, 5)), ("come", "e", (64,)), ("tick", 0),
             ("tick", 10 ** 6 + 1), ("away", "A"), ("away",), ("doubt", "a"), ("odd", "a"), ("Flow",), (), "flow", 0]
    return odd_things() + wrong


class Made(Case):
    def refused(self, what, **parts):
        ring = parts.pop("ring", RING)
        with self.assertRaises(NoShape) as caught:
            World(ring, **parts)
        self.assertEqual(caught.exception.what, what, parts)

    def test_a_new_world(self):
        world = World(RING)
        self.are_alike(world.shape(), Shape(RING))
        self.assertEqual(world.houses(), list("abcdef"))
        self.assertEqual((world.letters(), world.asked(), world.log(), world.now(), len(world)), ([], [], [], 0, 0))
        for name in "abcdef":
            self.are_alike(world.one_house(name), House(name))
            self.are_alike(world.thoughts(name), News(name, list("abcdef")))
            self.assertIs(world.is_away(name), False)
        book = world.book()
        self.assertEqual((book.versions("k"), book.told(), book.swept(), book.losses()), ([], [], [], 0))

    def test_of_all_parts(self):
        world = World(RING, copies=5, write=4, read=1, most=None, keep=7, mending=False)
        self.are_alike(world.shape(), Shape(RING, copies=5, write=4, read=1, most=None, keep=7))

    def test_parts_at_and_beyond_their_edges(self):
        for copies in (1, 5):
            self.assertEqual(World(RING, copies=copies, write=1, read=1).shape().counts(), (copies, 1, 1))
        for copies in (0, 6, True, None, "3"):
            self.refused("copies", copies=copies, write=1, read=1)
        self.refused("copies", ring=SMALL)
        for many in (1, 4):
            self.assertEqual(World(RING, copies=4, write=many, read=many).shape().counts(), (4, many, many))
        for many in (0, 5, True, None):
            self.refused("write", copies=4, write=many)
            self.refused("read", copies=4, read=many)
        for most in (0, 99, None):
            self.assertEqual(World(RING, most=most).shape().most(), most)
        for most in (-1, 100, True, "8"):
            self.refused("most", most=most)
        for keep in (1, 10 ** 6):
            self.assertEqual(World(RING, keep=keep).shape().kept(), keep)
        for keep in (0, 10 ** 6 + 1, True, None):
            self.refused("keep", keep=keep)

    def test_of_anything(self):
        for thing in odd_things() + [RING.marks()]:
            self.refused("ring", ring=thing)
        for thing in no_wholes():
            for name in ("copies", "write", "read", "keep"):
                self.refused(name, **{name: thing})
            if thing is not None:
                self.refused("most", most=thing)

    def test_several_wrong_at_once(self):
        names = list(WRONG)
        for many in range(1, len(names) + 1):
            for some in itertools.combinations(names, many):
                self.refused(some[0], **{name: WRONG[name] for name in some})

    def test_by_names(self):
        world = World(mending=True, keep=5, most=0, read=1, write=3, copies=4, ring=RING)
        self.are_alike(world.shape(), Shape(RING, copies=4, write=3, read=1, most=0, keep=5))
        self.assertRaises(TypeError, World, RING, 3)
        self.assertRaises(TypeError, World)


class Forms(Case):
    def test_each_form_is_taken_for_one(self):
        for deed in DEEDS:
            try:
                self.assertIs(type(four().do(deed)), list)
            except (NoLetter, NoAsker, Busy):
                self.assertIn(deed[0], ("give", "twice", "lose", "leave", "back"))

    def test_no_deed_of_anything(self):
        world = four()
        before = all_of_it(world)
        for thing in no_deeds():
            self.refuses(NoDeed, world.do, thing, number=None)
        self.assertEqual(all_of_it(world), before)

    def test_ahead_of_a_house_that_is_not_there(self):
        world = four()
        for deed in (("doubt", "x", "B"), ("write", "me", "x", "k", True), ("news", "x", 5), ("come", "a", (64,))):
            self.refuses(NoDeed, world.do, deed, number=None)


class Woven(Case):
    def test_what_is_told_of_each(self):
        one, other = four(), four()
        deeds = [("write", "me", "b", "k", 5), ("flow",), ("read", "me", "b", "k"), ("flow",), ("compare", "b", "c")]
        told = one.weave(deeds)
        self.assertEqual(told, [other.do(deed) for deed in deeds])
        self.assertEqual(told[1], [("wrote", "me", "k", (1, "b", 1))])
        self.assertEqual(all_of_it(one), all_of_it(other))
        self.assertEqual(one.log(), [thing for row in told for thing in row])
        self.assertEqual(four().weave([]), [])

    def test_the_first_that_is_none_by_its_form_ahead_of_all(self):
        world = four()
        before = all_of_it(world)
        for thing in no_deeds():
            self.refuses(NoDeed, world.weave, [thing], number=0)
            self.refuses(NoDeed, world.weave, [("away", "a"), ("away", "a"), thing, ("tick", 0)], number=2)
        self.assertEqual(all_of_it(world), before)

    def test_no_list(self):
        world = four()
        for thing in odd_things() + [(), (("flow",),), ("flow",), {0: ("flow",)}, iter([("flow",)])]:
            if not isinstance(thing, list):
                self.refuses(NoDeed, world.weave, thing, number=None)
        self.assertEqual(world.weave([]), [])

    def test_what_is_refused_ends_it_and_what_was_done_ahead_stands(self):
        world, other = four(), four()
        self.refuses(Away, world.weave, [("tick", 3), ("away", "a"), ("away", "a"), ("tick", 5)], house="a")
        other.weave([("tick", 3), ("away", "a")])
        self.assertEqual(all_of_it(world), all_of_it(other))

    def test_the_list_stays_and_is_not_kept(self):
        world = four()
        deeds = [("write", "me", "b", "k", 5), ("flow",)]
        told = world.weave(deeds)
        self.assertEqual(deeds, [("write", "me", "b", "k", 5), ("flow",)])
        told[1].clear()
        told.clear()
        self.assertEqual(world.log(), [("wrote", "me", "k", (1, "b", 1))])


class Refused(Case):
    def test_a_house_that_is_not_there(self):
        world = four()
        world.do(("write", "me", "a", "k", 5))
        before = all_of_it(world)
        for deed in (("write", "me", "x", "k", 5), ("gone", "me", "x", "k"), ("read", "me", "x", "k"), ("away", "x"),
                     ("back", "x"), ("lost", "x"), ("doubt", "x", "a"), ("doubt", "a", "x"), ("doubt", "x", "x"),
                     ("news", "x", "a"), ("news", "a", "x"), ("return", "x"), ("compare", "x", "a"), ("compare", "a", "x")):
            self.refuses(NoHouse, world.do, deed, house="x")
        self.refuses(NoHouse, world.do, ("news", "x", "y"), house="x")
        self.assertEqual(all_of_it(world), before)

    def test_ahead_of_away_and_busy(self):
        world = four()
        world.weave([("away", "a"), ("write", "me", "b", "k", 5)])
        for deed in (("doubt", "a", "x"), ("news", "a", "x"), ("news", "x", "a"), ("compare", "a", "x"), ("write", "me", "x", "k", 5)):
            self.refuses(NoHouse, world.do, deed, house="x")
        for deed in (("write", "me", "a", "k", 5), ("gone", "me", "a", "k"), ("read", "me", "a", "k")):
            self.refuses(Away, world.do, deed, house="a")
        for deed in (("write", "me", "b", "k", 5), ("gone", "me", "c", "z"), ("read", "me", "d", "k")):
            self.refuses(Busy, world.do, deed, what="me")

    def test_doubt(self):
        world = four()
        world.do(("away", "a"))
        self.refuses(NoHouse, world.do, ("doubt", "a", "a"), house="a")
        self.refuses(NoHouse, world.do, ("doubt", "b", "b"), house="b")
        self.refuses(Away, world.do, ("doubt", "a", "b"), house="a")
        self.assertEqual(world.do(("doubt", "b", "a")), [])

    def test_news(self):
        world = four()
        world.weave([("away", "a"), ("away", "c")])
        self.refuses(Away, world.do, ("news", "a", "b"), house="a")
        self.refuses(Away, world.do, ("news", "b", "a"), house="a")
        self.refuses(Away, world.do, ("news", "c", "a"), house="c")
        self.refuses(Away, world.do, ("news", "a", "a"), house="a")

    def test_away_and_back(self):
        world = four()
        self.refuses(Busy, world.do, ("back", "a"), what="a")
        world.do(("away", "a"))
        self.refuses(Away, world.do, ("away", "a"), house="a")
        world.do(("back", "a"))
        self.refuses(Busy, world.do, ("back", "a"), what="a")

    def test_letters_and_askers(self):
        world = four()
        for word in ("give", "twice", "lose"):
            for number in (0, 1, 10 ** 29):
                self.refuses(NoLetter, world.do, (word, number), number=number)
        self.refuses(NoAsker, world.do, ("leave", "me"), asker="me")
        world.weave([("write", "me", "b", "k", 5), ("leave", "me")])
        self.refuses(NoAsk, world.do, ("leave", "me"), number=None)
        self.refuses(NoAsker, world.do, ("leave", "you"), asker="you")

    def test_an_asker_that_was_refused_is_none(self):
        world = four()
        world.do(("away", "a"))
        self.refuses(Away, world.do, ("write", "me", "a", "k", 5), house="a")
        self.refuses(NoHouse, world.do, ("read", "me", "x", "k"), house="x")
        self.refuses(NoAsker, world.asker_twin, "me", asker="me")

    def test_what_is_refused_changes_nothing(self):
        refused = 0
        for draw in draws(40, "refused"):
            world = drawn_world(draw)
            for again in range(120):
                deed = drawn_deed(draw, world)
                before = all_of_it(world)
                try:
                    world.do(deed)
                except REFUSALS:
                    refused += 1
                    self.assertEqual(all_of_it(world), before, deed)
        self.assertGreater(refused, 500)


class Askings(Case):
    def test_no_house_of_anything(self):
        world = four()
        for thing in no_words() + ["e", "me"]:
            for ask in (world.one_house, world.thoughts, world.is_away):
                self.refuses(NoHouse, ask, thing, house=thing)

    def test_no_asker_of_anything(self):
        world = four()
        world.do(("read", "me", "a", "k"))
        for thing in no_words() + ["you", "a"]:
            self.refuses(NoAsker, world.asker_twin, thing, asker=thing)
        self.assertEqual(world.asker_twin("me").busy(), 0)

    def test_told_things_changed_change_no_later_answer(self):
        world = four(write=1)
        world.weave([("write", "me", "b", "k", 5), ("read", "you", "b", "k"), ("away", "d")])
        before = all_of_it(world)
        for ask in (world.houses, world.letters, world.asked, world.log):
            told = ask()
            self.assertIs(type(told), list)
            self.assertTrue(told)
            ask().clear()
            self.assertEqual(ask(), told)
        world.one_house("b").lose_all()
        world.thoughts("b").doubt("c")
        world.asker_twin("you").leave_off()
        world.book().add_loss()
        world.book().told().clear()
        world.book().versions("k").clear()
        self.assertEqual(all_of_it(world), before)

    def test_by_names(self):
        world = four()
        self.assertEqual(world.do(deed=("read", "me", "b", "k")), [])
        self.assertEqual(world.weave(deeds=[("away", "a")]), [[]])
        self.assertIs(world.is_away(name="a"), True)
        self.assertEqual(world.one_house(name="a").called(), "a")
        self.assertEqual(world.thoughts(name="a").called(), "a")
        self.assertEqual(world.asker_twin(name="me").called(), "me")
        for call in (world.do, world.weave, world.is_away, world.one_house, world.thoughts, world.asker_twin):
            self.assertRaises(TypeError, call)

    def test_a_ring_is_not_changed(self):
        ring = Ring(MARKS)
        world = World(ring, copies=2)
        world.do(("come", "e", (3,)))
        self.are_alike(ring, Ring(MARKS))
        self.assertEqual(world.shape().ring().houses(), list("abcde"))


if __name__ == "__main__":
    unittest.main()
