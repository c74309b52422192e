"""[13.1]: texts of cells, rings and weavings, and what they are read to."""

import unittest

from cases import Case
from drawn import KEYS, draws, drawn_ring, drawn_steps, drawn_world
from heldhints.errors import NoCell, NoDeed, NoText
from heldhints.ring import Ring
from heldhints.texts import read_cell, read_ring, read_weaving, show_cell, show_ring, show_weaving
from odd import odd_things

A1, A2, B1 = (1, "a", 1), (2, "a", 1), (1, "b", 1)
WORST = 10 ** 9
LONG = int("9" * 30)

CELLS = {
    "": (),
    "1.a.1 - 5": ((A1, (), 5),),
    "1.a.1 - 0": ((A1, (), 0),),
    "1.a.1 - -1": ((A1, (), -1),),
    "1.a.1 - gone@0": ((A1, (), ("gone", 0)),),
    f"1.a.1 - gone@{LONG}": ((A1, (), ("gone", LONG)),),
    f"1.a.{LONG} - 5": (((1, "a", LONG), (), 5),),
    f"1.a.1 - {WORST}\n1.b.1 - -{WORST}": ((A1, (), WORST), (B1, (), -WORST)),
    "2.a.1 1.a.1 30": ((A2, (A1,), 30),),
    "1000000000000.abcdef.12 1.a.1,1.b.1,2.a.1 7": (((10 ** 12, "abcdef", 12), (A1, B1, A2), 7),),
    "1.a.1 - 5\n1.b.1 - gone@9\n3.a.1 2.a.1 -4": ((A1, (), 5), (B1, (), ("gone", 9)), ((3, "a", 1), (A2,), -4)),
}

RINGS = {
    "5 a": [(5, "a")],
    "0 a\n63 abcdef": [(0, "a"), (63, "abcdef")],
    "3 a\n3 b\n10 a": [(3, "a"), (3, "b"), (10, "a")],
}

DEEDS = {
    "write me a k 5": ("write", "me", "a", "k", 5), f"write me a k -{WORST}": ("write", "me", "a", "k", -WORST),
    "write me a k 0": ("write", "me", "a", "k", 0), "gone me a k": ("gone", "me", "a", "k"), "read me a k": ("read", "me", "a", "k"),
    "leave me": ("leave", "me"), "give 0": ("give", 0), f"twice {LONG}": ("twice", LONG), "lose 12": ("lose", 12),
    "flow": ("flow",), "away a": ("away", "a"), "back a": ("back", "a"), "lost abcdef": ("lost", "abcdef"),
    "doubt a b": ("doubt", "a", "b"), "news a a": ("news", "a", "a"), "return a": ("return", "a"),
    "compare a b": ("compare", "a", "b"), "come a 5": ("come", "a", (5,)), "come a 63,0,5": ("come", "a", (63, 0, 5)),
    "go a": ("go", "a"), "tick 1": ("tick", 1), "tick 1000000": ("tick", 10 ** 6),
}

# Rows that have none of the forms, each with what is put otherwise in it.
NO_VERSIONS = [
    "", " ", "1.a.1", "1.a.1 -", "1.a.1 - 5 ", " 1.a.1 - 5", "1.a.1  - 5", "1.a.1 -  5", "1.a.1 - 5 6", "1.a.1 - 5\t", "1.a.1\t-\t5",
    "1.a - 5", "1.a.1.1 - 5", "1,a,1 - 5", "1.A.1 - 5", "1..1 - 5", "1.abcdefg.1 - 5", "1.a1.1 - 5", ".a.1 - 5", "1.a. - 5",
    "01.a.1 - 5", "1.a.01 - 5", "00.a.1 - 5", "+1.a.1 - 5", "-1.a.1 - 5", "1.a.-1 - 5", "1e1.a.1 - 5", "1_0.a.1 - 5",
    "1" * 31 + ".a.1 - 5", "1.a.1 - " + "1" * 31, "1.a.1 - gone@" + "1" * 31, "1.a.1 - -" + "1" * 31,
    "1.a.1 -- 5", "1.a.1 , 5", "1.a.1 1.a.1, 5", "1.a.1 ,1.a.1 5", "1.a.1 1.a.1,,1.b.1 5", "1.a.1 1.a.1;1.b.1 5", "1.a.1 -,1.b.1 5",
    "1.a.1 - -0", "1.a.1 - 05", "1.a.1 - -05", "1.a.1 - +5", "1.a.1 - --5", "1.a.1 - 5.0", "1.a.1 - ", "1.a.1 - -", "1.a.1 - x",
    "1.a.1 - gone", "1.a.1 - gone@", "1.a.1 - gone@-1", "1.a.1 - gone@01", "1.a.1 - gone@x", "1.a.1 - GONE@1", "1.a.1 - gone 1",
    "1.a.1 - 5\r", "1.a.1 - 5#",
]
NO_MARKS = ["", " ", "5", "a", "5 a ", " 5 a", "5  a", "5 A", "5 a b", "05 a", "-5 a", "5 abcdefg", "5 a1", "5a", "5,a", "x a",
            "5 ", " a", "1" * 31 + " a", "5\ta", "5 a\r"]
NO_DEEDS = ["", " ", "Flow", "flow ", " flow", "flow 1", "odd a", "write me a k", "write me a k 5 6", "write me a k 05",
            "write me a k -0", "write me a k +5", "write me a k 1000000001", "write me a k -1000000001", "write me a k gone@5",
            "write me  a k 5", "write Me a k 5", "gone me a k 5", "read me a", "leave", "leave me you", "give", "give -1", "give 01",
            "give x", "give " + "1" * 31, "twice 0 1", "away A", "away abcdefg", "doubt a", "come a", "come a ", "come a 64",
            "come a 5,5", "come a 5,", "come a ,5", "come a 05", "come a 5, 6", "come a -", "come a -1", "come A 5", "tick 0",
            "tick 1000001", "tick -1", "tick 01", "tick", "return", "compare a", "news a", "lost", "back a b", "go 5"]


def no_texts():
    return [thing for thing in odd_things() if not isinstance(thing, str)] + [b"", b"5 a", 0, 5, ["5 a"], ("5 a",)]


class Shown(Case):
    def test_cells(self):
        for text, cell in CELLS.items():
            self.assertEqual(show_cell(cell), text)
            self.assertEqual(read_cell(text), cell)

    def test_rings(self):
        for text, marks in RINGS.items():
            self.assertEqual(show_ring(Ring(marks)), text)
            self.assertEqual(show_ring(Ring(marks[::-1])), text)
            self.are_alike(read_ring(text), Ring(marks))

    def test_weavings(self):
        self.assertEqual((show_weaving([]), read_weaving("")), ("", []))
        for text, deed in DEEDS.items():
            self.assertEqual(show_weaving([deed]), text)
            self.assertEqual(read_weaving(text), [deed])
            self.assertIs(type(read_weaving(text)), list)
        self.assertEqual(show_weaving(list(DEEDS.values())), "\n".join(DEEDS))
        self.assertEqual(read_weaving("\n".join(DEEDS)), list(DEEDS.values()))
        self.assertEqual(len({deed[0] for deed in DEEDS.values()}), 18)

    def test_no_cell(self):
        for thing in odd_things() + [list(CELLS["1.a.1 - 5"]), ((B1, (), 5), (A1, (), 5)), ((A1, (A1,), 5),), "", 5]:
            self.refuses(NoCell, show_cell, thing)

    def test_no_weaving(self):
        for thing in odd_things() + [(), (("flow",),), ("flow",), "flow"]:
            if not isinstance(thing, list):
                self.refuses(NoDeed, show_weaving, thing, number=None)
        for thing in odd_things():
            self.refuses(NoDeed, show_weaving, [("flow",), thing, thing], number=1)
        self.refuses(NoDeed, show_weaving, [("flow",), ("flow",), ("tick", 0)], number=2)

    def test_what_is_written_is_read_back(self):
        for draw in draws(40, "texts"):
            world = drawn_world(draw)
            deeds = [deed for deed, told in drawn_steps(draw, world, 60)]
            self.assertEqual(read_weaving(show_weaving(deeds)), deeds)
            ring = drawn_ring(draw, 1)
            self.are_alike(read_ring(show_ring(ring)), ring)
            for name in world.houses():
                for word in KEYS:
                    cell = world.one_house(name).all_of(word)
                    self.assertEqual(read_cell(show_cell(cell)), cell)


class Refused(Case):
    def test_no_text_of_anything(self):
        for thing in no_texts():
            for read in (read_cell, read_ring, read_weaving):
                self.refuses(NoText, read, thing, row=0)

    def rows_refused(self, read, good, wrong):
        """Each wrong row is told by its number, the first of several."""
        for row in wrong:
            if row != "":
                self.refuses(NoText, read, row, row=0)
            self.refuses(NoText, read, row + "\n" + good, row=0)
            self.refuses(NoText, read, good + "\n" + row, row=len(good.split("\n")))
            self.refuses(NoText, read, good + "\n" + row + "\n" + good + "\n" + row, row=len(good.split("\n")))

    def test_rows_of_none_of_the_forms(self):
        self.rows_refused(read_cell, "1.a.1 - 5\n1.b.1 - 6", NO_VERSIONS)
        self.rows_refused(read_ring, "5 a\n7 b\n9 c", NO_MARKS)
        self.rows_refused(read_weaving, "\n".join(DEEDS), NO_DEEDS)

    def test_a_line_feed_at_the_end_and_ahead(self):
        for read, good in ((read_cell, "1.a.1 - 5"), (read_ring, "5 a"), (read_weaving, "flow")):
            self.refuses(NoText, read, good + "\n", row=1)
            self.refuses(NoText, read, "\n" + good, row=0)
            self.refuses(NoText, read, "\n", row=0)

    def test_rows_of_which_no_cell_comes(self):
        rows = ["1.a.1 - 5\n1.a.1 - 5", "1.b.1 - 5\n1.a.1 - 6", "1.a.1 - 5\n2.a.1 1.a.1 6", "1.a.1 1.a.1 5", "2.a.1 1.b.1,1.a.1 5",
                "2.a.1 1.a.1,1.a.1 5", "0.a.1 - 5", "1.a.0 - 5", "2.a.1 0.a.1 5", "1000000000001.a.1 - 5", "1.a.1 - 1000000001",
                "1.a.1 - -1000000001", "1" * 30 + ".a.1 - 5", "1.a.1 - " + "1" * 30]
        for text in rows:
            self.refuses(NoText, read_cell, text, row=None)
            # The form goes first, wherever it is.
            self.refuses(NoText, read_cell, text + "\nx", row=len(text.split("\n")))

    def test_rows_of_which_no_ring_comes(self):
        many = [f"{place} {house}" for place in range(10, 34) for house in ("a", "b")]
        self.assertEqual(len(read_ring("\n".join(many)).marks()), 48)
        for text in ("", "7 b\n5 a", "5 b\n5 a", "5 a\n5 a", "64 a", "5 a\n" + "1" * 30 + " b", "\n".join(many + ["40 a"])):
            self.refuses(NoText, read_ring, text, row=None)
            if text:
                self.refuses(NoText, read_ring, text + "\nx", row=len(text.split("\n")))

    def test_each_row_left_out_twice_and_exchanged(self):
        text = "1.a.1 - 5\n1.b.1 - gone@9\n3.a.1 2.a.1 -4"
        rows = text.split("\n")
        for number in range(3):
            left = rows[:number] + rows[number + 1:]
            self.assertEqual(show_cell(read_cell("\n".join(left))), "\n".join(left))
            self.refuses(NoText, read_cell, "\n".join(rows[:number] + [rows[number]] + rows[number:]), row=None)
        self.refuses(NoText, read_cell, "\n".join([rows[1], rows[0], rows[2]]), row=None)

    def test_each_sign_put_otherwise(self):
        """Whatever is read at all is written so and not otherwise."""
        texts = [(read_cell, show_cell, "1.a.1 - 5\n12.b.1 1.a.2,2.a.1 gone@9"), (read_ring, show_ring, "5 a\n10 b\n10 c"),
                 (read_weaving, show_weaving, "write me a k -5\ncome d 5,10\ntick 12\nflow")]
        for read, show, text in texts:
            read_ones = 0
            for number in range(len(text) + 1):
                for sign in ["", "\n"] + [chr(code) for code in range(32, 127)]:
                    for other in (text[:number] + sign + text[number + 1:], text[:number] + sign + text[number:]):
                        try:
                            thing = read(other)
                        except NoText:
                            continue
                        self.assertEqual(show(thing), other)
                        read_ones += 1
            self.assertGreater(read_ones, 20)

    def test_the_text_without_signs_read_as_each(self):
        self.assertEqual((read_cell(""), read_weaving("")), ((), []))
        self.refuses(NoText, read_ring, "", row=None)

    def test_other_figures(self):
        for text in ("\u0661.a.1 - 5", "1.a.1 - \u0665", "1.a.1 - \xb2"):
            self.refuses(NoText, read_cell, text, row=0)


class Arguments(Case):
    def test_by_names(self):
        self.assertEqual(show_cell(cell=()), "")
        self.assertEqual(show_ring(ring=Ring([(5, "a")])), "5 a")
        self.assertEqual(show_weaving(deeds=[("flow",)]), "flow")
        self.assertEqual(read_cell(text=""), ())
        self.assertEqual(read_ring(text="5 a").marks(), [(5, "a")])
        self.assertEqual(read_weaving(text="flow"), [("flow",)])
        for call in (show_cell, show_ring, show_weaving, read_cell, read_ring, read_weaving):
            self.assertRaises(TypeError, call)

    def test_what_is_handed_in_stays_and_what_is_told_is_new(self):
        deeds = [("flow",), ("come", "d", (5, 3))]
        self.assertEqual(show_weaving(deeds), "flow\ncome d 5,3")
        self.assertEqual(deeds, [("flow",), ("come", "d", (5, 3))])
        read_weaving("flow").clear()
        self.assertEqual(read_weaving("flow"), [("flow",)])


if __name__ == "__main__":
    unittest.main()
