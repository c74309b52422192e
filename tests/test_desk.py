"""[13.2], [13.3]: a desk."""

import unittest

from cases import Case
from drawn import KEYS, draws, drawn_deed, drawn_world
from heldhints.desk import Desk
from heldhints.errors import (Away, Busy, HintError, NoAsk, NoAsker, NoHouse, NoLetter, NoRing, NoRow, NoShape, NoSteps,
                              NoWorld)
from heldhints.mending import calm
from heldhints.texts import show_weaving
from odd import odd_things
from worlds import all_of_it

FOUR = "world 2 2 2 8 20 0=a 20=b 40=c 50=d"

# A row of each form but world.
ROWS = ["do flow", "calm 1", "cell a k", "note a k b", "notes a", "homes k", "houses", "away", "asked", "letters", "time"]


def desk(*rows):
    made = Desk()
    for row in rows:
        made.say(row)
    return made


class Worlds(Case):
    def test_made(self):
        made = Desk()
        self.assertEqual(made.say(FOUR), "ok")
        self.assertEqual(made.say("houses"), "a b c d")
        self.assertEqual(made.own_world.shape().counts(), (2, 2, 2))
        self.assertEqual((made.own_world.shape().most(), made.own_world.shape().kept()), (8, 20))
        self.assertEqual(made.own_world.shape().ring().marks(), [(0, "a"), (20, "b"), (40, "c"), (50, "d")])

    def test_most_of_none(self):
        made = desk("world 1 1 1 - 1000000 63=abcdef")
        self.assertEqual((made.own_world.shape().most(), made.own_world.shape().kept()), (None, 10 ** 6))
        self.assertIs(desk("world 1 1 1 0 1 0=a").own_world.shape().most() == 0, True)

    def test_begun_anew(self):
        made = desk(FOUR, "do tick 5", "do away a")
        self.assertEqual((made.say("time"), made.say("away")), ("5", "a"))
        self.assertEqual(made.say("world 1 1 1 - 20 5=x"), "ok")
        self.assertEqual((made.say("time"), made.say("away"), made.say("houses")), ("0", "-", "x"))

    def test_no_ring_then_no_shape(self):
        made = desk(FOUR, "do tick 5")
        for row, number in (("world 1 1 1 - 20 64=a", 0), ("world 1 1 1 - 20 5=a 64=b", 1), ("world 1 1 1 - 20 5=a 5=a", 1),
                            ("world 9 9 9 - 20 5=a 5=b 5=a", 2), ("world 1 1 1 - 20 " + " ".join(f"{place}=a" for place in range(49)), None)):
            self.refuses(NoRing, made.say, row, number=number)
        for row, what in (("world 2 1 1 - 20 5=a", "copies"), ("world 0 1 1 - 20 5=a", "copies"), ("world 1 2 1 - 20 5=a", "write"),
                          ("world 1 1 0 - 20 5=a", "read"), ("world 1 1 1 100 20 5=a", "most"), ("world 1 1 1 - 0 5=a", "keep"),
                          ("world 1 2 2 100 0 5=a", "write")):
            self.refuses(NoShape, made.say, row, what=what)
        self.assertEqual((made.say("time"), made.say("houses")), ("5", "a b c d"))

    def test_no_row(self):
        for row in ("world", "world 1 1 1 - 20", "world 1 1 1 - 20 ", "world 1 1 1 -  20 5=a", "world 1 1 1 20 5=a", "world 01 1 1 - 20 5=a",
                    "world 1 1 1 -1 20 5=a", "world - 1 1 - 20 5=a", "world 1 1 1 - - 5=a", "world 1 1 1 - 20 5=A", "world 1 1 1 - 20 5=",
                    "world 1 1 1 - 20 =a", "world 1 1 1 - 20 05=a", "world 1 1 1 - 20 -5=a", "world 1 1 1 - 20 5=a=b", "world 1 1 1 - 20 5 a",
                    "world 1 1 1 - 20 5=a ", "world 1 1 1 - 20 5=abcdefg", "world x 1 1 - 20 5=a", "world 1 1 1 - 20 " + "1" * 31 + "=a",
                    "World 1 1 1 - 20 5=a", " world 1 1 1 - 20 5=a", "world 1 1 1 - 20 5=a\n"):
            self.refuses(NoRow, Desk().say, row)

    def test_two_desks_do_not_know_of_each_other(self):
        one, other = desk(FOUR), desk(FOUR)
        one.say("do tick 5")
        self.assertEqual((one.say("time"), other.say("time")), ("5", "0"))
        self.refuses(NoWorld, Desk().say, "time")


class Answers(Case):
    def test_a_writing_word_for_word(self):
        made = desk(FOUR)
        self.assertEqual(made.say("do write me b k -5"), "-")
        self.assertEqual(made.say("letters"), "0 keep b c k")
        self.assertEqual(made.say("asked"), "me:0")
        self.assertEqual(made.say("do give 0"), "-")
        self.assertEqual(made.say("letters"), "1 kept c b k")
        self.assertEqual(made.say("do give 1"), "wrote me k 1.b.1")
        self.assertEqual((made.say("letters"), made.say("asked")), ("-", "-"))
        self.assertEqual(made.say("cell c k"), "1.b.1 - -5")
        self.assertEqual(made.say("do read you a k"), "-")
        self.assertEqual(made.say("letters"), "2 tell a b k; 3 tell a c k")
        self.assertEqual(made.say("do flow"), "told you k -5 1.b.1")

    def test_several_things(self):
        made = desk("world 2 2 2 - 20 0=a 20=b 40=c 50=d", "do write me b k 5", "do write you c k 6", "do read we d z")
        self.assertEqual(made.say("asked"), "me:0 we:2 you:1")
        self.assertEqual(made.say("do flow"), "wrote me k 1.b.1; wrote you k 1.c.1; told we z - -")
        self.assertEqual(made.say("cell b k"), "1.b.1 - 5; 1.c.1 - 6")
        made.say("do read me a k")
        self.assertEqual(made.say("do flow"), "told me k 5,6 1.b.1,1.c.1")
        made.say("do gone me b k")
        made.say("do flow")
        self.assertEqual(made.say("cell b k"), "2.b.1 1.b.1,1.c.1 gone@0")
        made.say("do read me a k")
        self.assertEqual(made.say("do flow"), "told me k - 1.b.1,1.c.1,2.b.1")

    def test_notes(self):
        made = desk(FOUR, "do doubt a b", "do write me a k 5", "do write you a ab 6", "do flow")
        self.assertEqual(made.say("notes d"), "ab:b k:b")
        self.assertEqual(made.say("note d k b"), "1.a.1 - 5")
        self.assertEqual((made.say("notes a"), made.say("note d k c"), made.say("note a k b")), ("-", "-", "-"))
        self.assertEqual((made.say("cell d k"), made.say("cell b k")), ("-", "-"))

    def test_home_is_any_word(self):
        made = desk(FOUR)
        self.assertEqual(made.say("note a k x"), "-")
        self.refuses(NoHouse, made.say, "note x k a", house="x")
        self.refuses(NoHouse, made.say, "note x k y", house="x")

    def test_compared_came_and_went(self):
        made = desk("world 2 1 1 8 20 0=a 20=b 40=c 50=d", "do write me b k 5", "do write me b ab 5", "do lose 0", "do lose 1")
        self.assertEqual(made.say("do compare b c"), "compared b c ab,k 19")
        self.assertEqual(made.say("do compare b c"), "compared b c - 1")
        self.assertEqual(made.say("do come e 15,3"), "came e ab,k")
        self.assertEqual(made.say("do come f 63"), "came f -")
        self.assertEqual(made.say("do go f"), "went f -")
        self.assertEqual(made.say("do go e"), "went e ab,k")
        self.assertEqual(made.say("homes k"), "b c")

    def test_calm(self):
        made = desk(FOUR, "do write me b k 5")
        self.assertEqual(made.say("calm 9"), "1")
        self.assertEqual((made.say("calm 1"), made.say("calm 100")), ("0", "0"))
        for row in ("calm 0", "calm 101", "calm " + "9" * 30):
            self.refuses(NoSteps, made.say, row)

    def test_houses_away_and_time(self):
        made = desk(FOUR)
        self.assertEqual((made.say("houses"), made.say("away"), made.say("time")), ("a b c d", "-", "0"))
        made.say("do away c")
        made.say("do lost a")
        made.say("do tick 1000000")
        self.assertEqual((made.say("away"), made.say("time"), made.say("homes z")), ("a c", "1000000", "c d"))

    def test_beside_a_world_to_which_the_same_is_done(self):
        for draw in draws(25, "desk"):
            world = drawn_world(draw, mending=True)
            made = desk(world_row(world))
            for again in range(60):
                deed = drawn_deed(draw, world)
                self.done_alike(made, world, deed)
                if draw.random() < 0.05:
                    self.assertEqual(made.say("calm 3"), str(calm(world, 3)))
            self.assertEqual(all_of_it(made.own_world), all_of_it(world))
            self.told_alike(made, world)

    def done_alike(self, made, world, deed):
        row = "do " + show_weaving([deed])
        try:
            told = world.do(deed)
        except Exception as refusal:
            self.refuses(type(refusal), made.say, row, **vars(refusal))
            return
        self.assertEqual(made.say(row), "; ".join(shown(thing) for thing in told) or "-")

    def told_alike(self, made, world):
        self.assertEqual(made.say("time"), str(world.now()))
        self.assertEqual(made.say("houses"), " ".join(world.houses()))
        self.assertEqual(made.say("letters"), "; ".join(
            f"{number} {letter[0]} {letter[2]} {letter[3]} {letter[4]}" for number, letter in world.letters()) or "-")
        for name in world.houses():
            notes = world.one_house(name).notes()
            self.assertEqual(made.say(f"notes {name}"), " ".join(f"{word}:{home}" for word, home in notes) or "-")
            for word in KEYS:
                self.assertEqual(made.say(f"homes {word}"), " ".join(world.shape().homes(word)))


def world_row(world):
    copies, write, read = world.shape().counts()
    most = "-" if world.shape().most() is None else world.shape().most()
    marks = " ".join(f"{place}={house}" for place, house in world.shape().ring().marks())
    return f"world {copies} {write} {read} {most} {world.shape().kept()} {marks}"


def shown(thing):
    """What came of a deed, as the document writes it."""
    def dots(known):
        return ",".join(".".join(map(str, dot)) for dot in known) or "-"

    def listed(things):
        return ",".join(map(str, things)) or "-"

    parts = {"wrote": lambda asker, key, dot: (asker, key, dots([dot])),
             "told": lambda asker, key, worths, known: (asker, key, listed(worths), dots(known)),
             "compared": lambda one, other, keys, looked: (one, other, listed(keys), str(looked)),
             "came": lambda house, keys: (house, listed(keys)), "went": lambda house, keys: (house, listed(keys))}
    return " ".join((thing[0],) + parts[thing[0]](*thing[1:]))


class Refused(Case):
    def test_no_row_of_anything(self):
        for made in (Desk(), desk(FOUR)):
            for thing in odd_things() + [b"time", ["time"], ("time",), 5]:
                self.refuses(NoRow, made.say, thing)

    def test_words_too_few_or_too_many(self):
        for made in (Desk(), desk(FOUR)):
            for row in ROWS + [FOUR]:
                words = row.split(" ")
                if len(words) > 1 and row != FOUR:
                    self.refuses(NoRow, made.say, " ".join(words[:-1]))
                for other in (row + " a", row + " 1", row + " ", " " + row, row + "\n", "\n" + row, row.replace(" ", "  ", 1) + " ",
                              row.upper(), row + "\r"):
                    self.refuses(NoRow, made.say, other)
                if len(words) > 1:
                    self.refuses(NoRow, made.say, row.replace(" ", "  ", 1))
                    self.refuses(NoRow, made.say, row.replace(" ", "\n", 1))
            for row in ("", " ", "\n", "odd", "-", "do", "do ", "ok", "flow", "write me a k 5"):
                self.refuses(NoRow, made.say, row)

    def test_parts_not_written_so(self):
        made = desk(FOUR)
        for row in ("calm x", "calm -1", "calm 01", "calm -", "calm " + "1" * 31, "cell A k", "cell a K", "cell a 1", "cell abcdefg k",
                    "note a k B", "note a K b", "note A k b", "note a k -", "notes A", "notes 1", "homes K", "homes -", "do odd",
                    "do tick 0", "do tick 01", "do come e 64", "do come e 5,5", "do write me a k 1000000001", "do write me a k gone@5",
                    "do flow\n", "do flow flow", "do give -1"):
            self.refuses(NoRow, made.say, row)

    def test_no_world_behind_no_row(self):
        for row in ROWS + ["calm 0", "cell x k", "do away x"]:
            self.refuses(NoWorld, Desk().say, row)

    def test_then_as_the_points_tell(self):
        made = desk(FOUR, "do away a", "do read me b k", "do leave me")
        for row, refusal, fields in (
                ("cell x k", NoHouse, {"house": "x"}), ("notes x", NoHouse, {"house": "x"}), ("do away x", NoHouse, {"house": "x"}),
                ("do away a", Away, {"house": "a"}), ("do back b", Busy, {"what": "b"}), ("do give 9", NoLetter, {"number": 9}),
                ("do leave me", NoAsk, {"number": None}), ("do leave you", NoAsker, {"asker": "you"}),
                ("do go b", Busy, {"what": "away"}), ("calm 101", NoSteps, {})):
            before = all_of_it(made.own_world)
            self.refuses(refusal, made.say, row, **fields)
            self.assertEqual(all_of_it(made.own_world), before)

    def test_a_refused_row_leaves_no_world(self):
        made = Desk()
        for row in ("world 2 1 1 - 20 5=a", "world 1 1 1 - 20 64=a", "world"):
            self.assertRaises(HintError, made.say, row)
            self.refuses(NoWorld, made.say, "time")

    def test_by_name(self):
        self.assertEqual(Desk().say(row=FOUR), "ok")
        self.assertRaises(TypeError, Desk().say)
        self.assertRaises(TypeError, Desk, 5)


if __name__ == "__main__":
    unittest.main()
