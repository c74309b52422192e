"""[0.3] (b), (d), (f), and what is missing, over many drawn weavings."""

import unittest

from drawn import KEYS, draws, drawn_deed, drawn_ring, drawn_steps, drawn_world, has_of, REFUSALS
from heldhints.cells import dots_of
from heldhints.judge import dots_there, missing, risen
from heldhints.weaving import lets_lack
from heldhints.world import World


class ReadingsTell(unittest.TestCase):
    """(b)"""

    def test_each_writing_told_ahead_where_numbers_together_are_more_than_copies(self):
        tried = 0
        for draw in draws(150, "tells"):
            copies = draw.randint(1, 4)
            write = draw.randint(1, copies)
            world = drawn_world(draw, copies=copies, write=write, read=draw.randint(copies - write + 1, copies))
            ahead = {}
            for deed, told in drawn_steps(draw, world, 120, but=("doubt", "news", "lost", "come", "go", "tick")):
                # A flow is told as one deed, and a read may be answered as it asks.
                if deed[0] == "read":
                    asked_ahead = [row[0] for row in world.book().told() if row[1] == deed[3]]
                    ahead[deed[1]] = asked_ahead
                for thing in told:
                    if thing[0] == "told":
                        for dot in ahead[thing[1]]:
                            self.assertTrue(set(world.book().came_of(dot)) & set(thing[4]))
                            tried += 1
        self.assertGreater(tried, 500)

    def test_drawn_weavings_are_let_by_as_little(self):
        for draw in draws(40, "strict"):
            copies = draw.randint(1, 3)
            write = draw.randint(1, copies)
            counts = (copies, write, draw.randint(copies - write + 1, copies))
            ring = drawn_ring(draw, copies)
            world = World(ring, copies=copies, write=write, read=counts[2], most=None)
            steps = drawn_steps(draw, world, 60, but=("doubt", "news", "lost", "come", "go", "tick"))
            deeds = [deed for deed, told in steps]
            self.assertIs(lets_lack(counts, (ring.marks(), deeds)), False)


class Cut(unittest.TestCase):
    """(d)"""

    def test_whatever_is_there_without_cutting_is_there_with_it(self):
        tried = stayed = 0
        for draw in draws(200, "cut"):
            copies = draw.randint(1, 4)
            parts = {"copies": copies, "write": draw.randint(1, copies), "read": draw.randint(1, copies), "mending": False}
            ring = drawn_ring(draw, copies)
            whole, cut_one = World(ring, most=None, **parts), World(ring, most=draw.choice([0, 1, 1, 2]), **parts)
            for again in range(60):
                deed = drawn_deed(draw, whole, but=("give", "twice", "lose", "flow", "return", "compare", "come", "go", "tick"))
                try:
                    whole.do(deed)
                except REFUSALS:
                    continue
                cut_one.do(deed)
                self.give_once(draw, whole, cut_one)
                for word in KEYS:
                    for name in whole.houses():
                        dots = [dots_of(world.one_house(name).all_of(word)) for world in (whole, cut_one)]
                        self.assertLessEqual(set(dots[0]), set(dots[1]))
                        tried += 1
                        stayed += len(dots[1]) - len(dots[0])
        self.assertGreater(tried, 5000)
        self.assertGreater(stayed, 100)

    def give_once(self, draw, *worlds):
        """Each letter is given, or lost, ahead of later deeds, in a drawn order."""
        while worlds[0].letters():
            numbers = [number for number, letter in worlds[0].letters()]
            self.assertEqual(numbers, [number for number, letter in worlds[1].letters()])
            deed = (draw.choice(["give", "give", "give", "give", "lose"]), draw.choice(numbers))
            for world in worlds:
                world.do(deed)


def is_anywhere(world, word, dots):
    """Whether one of the dots is in a cell, a note, a letter, or an answer that a reading had."""
    cells = [letter[5] for number, letter in world.letters() if letter[4] == word]
    for asking in world.own_asks:
        ask = asking.own_ask
        if ask.word() == word and hasattr(ask, "own_answers"):
            cells += list(ask.own_answers.values()) + [ask.cell()]
    return (any(has_of(world, name, word, dots) for name in world.houses())
            or any(dot in dots for cell in cells for dot in dots_of(cell)))


class ComesBack(unittest.TestCase):
    """(f)"""

    def test_never_where_nothing_that_the_marks_writer_knew_was_anywhere(self):
        clean, rose = 0, 0
        for draw in draws(150, "back"):
            world = drawn_world(draw, keep=draw.choice([1, 2]))
            let_go, gone = set(), []
            for deed, told in drawn_steps(draw, world, 100):
                book = world.book()
                for dot in set(book.swept()) - let_go:
                    word, version, known = book.own_made[dot]
                    if known and not is_anywhere(world, word, known):
                        gone.append((word, known))
                        clean += 1
                let_go = set(book.swept())
                for word, known in gone:
                    self.assertFalse(set(known) & set(dots_there(world, word)))
                rose += sum(len(risen(world, word)) for word in KEYS)
        self.assertGreater(clean, 30)
        self.assertGreater(rose, 30)

    def test_what_has_risen_was_somewhere_as_the_mark_was_let_go(self):
        for draw in draws(100, "risen"):
            world = drawn_world(draw, keep=draw.choice([1, 2]))
            let_go, left = set(), {}
            for deed, told in drawn_steps(draw, world, 80):
                book = world.book()
                for dot in set(book.swept()) - let_go:
                    word, version, known = book.own_made[dot]
                    left[dot] = [one for one in known if is_anywhere(world, word, [one])]
                let_go = set(book.swept())
            for word in KEYS:
                for dot in risen(world, word):
                    marks = [mark for mark in book.came_of(dot)[1:] if mark in let_go]
                    straight = [mark for mark in marks if dot in book.own_made[mark][2]]
                    if straight and deed[0] != "flow":
                        self.assertTrue(all(dot in left[mark] for mark in straight))


class NothingIsMissing(unittest.TestCase):
    def test_over_weavings_of_all_deeds(self):
        for draw in draws(120, "nothing"):
            world = drawn_world(draw)
            for deed, told in drawn_steps(draw, world, 100):
                if deed[0] in ("lost", "tick", "come", "go", "compare", "flow"):
                    self.assertEqual(missing(world), [], deed)


if __name__ == "__main__":
    unittest.main()
