"""[0.3], over many drawn weavings."""

import unittest

from drawn import ASKERS, KEYS, NAMES, draws, drawn_steps, drawn_world, has_of, make_calm
from heldhints.cells import joined, puts_out
from heldhints.mending import calm
from heldhints.ring import Ring
from heldhints.world import World


def in_houses(world, word):
    """All versions of a key in the cells and notes of each house."""
    kept = {}
    for name in world.houses():
        house = world.one_house(name)
        notes = [house.note(one, home) for one, home in house.notes() if one == word]
        kept[name] = [version for cell in [house.cell(word)] + notes for version in cell]
    return kept


class Told(unittest.TestCase):
    def test_no_dot_is_made_twice(self):
        for draw in draws(60, "dots"):
            world = drawn_world(draw)
            made = []
            for deed, told in drawn_steps(draw, world, 120):
                if deed[0] in ("write", "gone"):
                    book = world.book()
                    made.append(len([dot for word in KEYS for dot in book.versions(word)]))
            self.assertEqual(made, list(range(1, len(made) + 1)))

    def test_a_told_writing_is_with_as_many_houses_as_must_answer(self):
        tried = 0
        for draw in draws(250, "told"):
            world = drawn_world(draw)
            need = world.shape().counts()[1]
            known = 0
            for deed, told in drawn_steps(draw, world, 120):
                book = world.book()
                for dot, word, houses, lost in book.told()[known:]:
                    came = book.came_of(dot)
                    let_go = set(came) & set(book.swept())
                    have = [name for name in world.houses() if has_of(world, name, word, came)]
                    if deed[0] != "flow":
                        # A flow goes on behind the moment at which something is told.
                        self.assertTrue(let_go or len(have) >= need - (book.losses() - lost), deed)
                        tried += 1
                    self.assertGreaterEqual(len(houses), need)
                known = len(book.told())
        self.assertGreater(tried, 500)

    def test_one_of_them_is_there_while_fewer_were_lost(self):
        tried = 0
        for draw in draws(250, "there"):
            world = drawn_world(draw)
            need = world.shape().counts()[1]
            for deed, told in drawn_steps(draw, world, 120):
                if draw.random() < 0.2:
                    book = world.book()
                    for dot, word, houses, lost in book.told():
                        came = book.came_of(dot)
                        if book.losses() - lost < need and not set(came) & set(book.swept()):
                            self.assertTrue(any(has_of(world, name, word, came) for name in world.houses()))
                            tried += 1
        self.assertGreater(tried, 2000)


class PutOut(unittest.TestCase):
    def test_by_one_alone_that_knows_it(self):
        tried = 0
        for draw in draws(80, "put out"):
            world = drawn_world(draw)
            kept = {word: in_houses(world, word) for word in KEYS}
            # What is given back, lost, swept or moved goes by other ways.
            for deed, told in drawn_steps(draw, world, 100, but=("return", "lost", "tick", "come", "go")):
                for word in KEYS:
                    after = in_houses(world, word)
                    made = world.book().versions(word)
                    for name in world.houses():
                        for version in set(kept[word][name]) - set(after[name]):
                            self.assertTrue(any(puts_out(other, version) for other in made), deed)
                            tried += 1
                    kept[word] = after
        self.assertGreater(tried, 200)

    def test_those_that_do_not_know_each_other_are_all_kept(self):
        world = World(Ring([(0, "a"), (9, "b"), (20, "c")]))
        for asker, house, worth in (("me", "a", 1), ("you", "b", 2), ("we", "c", 3)):
            world.do(("write", asker, house, "k", worth))
        world.do(("flow",))
        for name in world.houses():
            self.assertEqual([worth for dot, known, worth in world.one_house(name).cell("k")], [1, 2, 3])


class Calm(unittest.TestCase):
    def test_one_round_makes_all_homes_alike_and_leaves_no_note(self):
        for draw in draws(150, "calm"):
            world = drawn_world(draw, most=None)
            for deed, told in drawn_steps(draw, world, 80):
                pass
            for name in world.houses():
                if world.is_away(name):
                    world.do(("back", name))
            calm(world, 1)
            for name in world.houses():
                self.assertEqual(world.one_house(name).notes(), [])
            for word in KEYS:
                cells = {world.one_house(name).cell(word) for name in world.shape().homes(word)}
                self.assertEqual(len(cells), 1)
            self.assertEqual(calm(world, 5), 0)


class Moved(unittest.TestCase):
    def test_each_keys_homes_have_what_its_homes_had(self):
        tried = 0
        for draw in draws(150, "moved"):
            world = drawn_world(draw)
            for deed, told in drawn_steps(draw, world, 60, but=("come", "go")):
                pass
            make_calm(world)
            for deed in (("come", "g", (draw.randrange(64),)), ("go", draw.choice(world.houses()))):
                before = {word: home_versions(world, word, with_notes=True) for word in KEYS}
                world.do(deed)
                self.assertEqual({word: home_versions(world, word) for word in KEYS}, before)
                self.assertEqual([world.one_house(name).notes() for name in world.houses()], [[]] * len(world.houses()))
                tried += len(world.log()[-1][2])
        self.assertGreater(tried, 100)


def home_versions(world, word, with_notes=False):
    """The cells of a key's homes joined, with the notes that others have for them."""
    homes = world.shape().homes(word)
    cells = [world.one_house(name).cell(word) for name in homes]
    if with_notes:
        houses = [world.one_house(name) for name in world.houses()]
        cells += [house.note(word, home) for house in houses for home in homes]
    return joined(cells)


RENAMED = dict(zip(NAMES, ["aa", "b", "bz", "cat", "dog", "e"]))


def renamed(thing):
    """A thing told of a world, with each house's name put otherwise; no asker and no key is called as a house."""
    if isinstance(thing, (tuple, list)):
        return type(thing)(renamed(part) for part in thing)
    if isinstance(thing, dict):
        return {renamed(key): renamed(thing[key]) for key in thing}
    return RENAMED.get(thing, thing) if isinstance(thing, str) else thing


def all_told(world):
    """All that a world tells of itself."""
    names = world.houses()
    askers = [name for name in ASKERS if name in str(world.asked() + world.log())]
    book = world.book()
    return [names, world.letters(), world.asked(), world.log(), world.now(), world.shape().ring().marks(),
            [world.one_house(name).state() for name in names],
            [world.thoughts(name).entries() for name in names],
            [world.is_away(name) for name in names],
            [world.asker_twin(name).tellings() for name in askers],
            [[world.asker_twin(name).known(word) for word in KEYS] for name in askers],
            book.told(), book.swept(), book.losses(), [book.versions(word) for word in KEYS]]


class CalledOtherwise(unittest.TestCase):
    def test_in_the_same_order(self):
        self.assertEqual(list(RENAMED.values()), sorted(RENAMED.values()))
        for draw in draws(60, "names"):
            world = drawn_world(draw)
            shape = world.shape()
            copies, write, read = shape.counts()
            other = World(Ring(renamed(shape.ring().marks())), copies=copies, write=write, read=read, most=shape.most(),
                          keep=shape.kept(), mending=world.own_mending)
            for deed, told in drawn_steps(draw, world, 100):
                self.assertEqual(other.do(renamed(deed)), renamed(told))
            self.assertEqual(all_told(other), renamed(all_told(world)))


class EitherOrder(unittest.TestCase):
    def test_two_letters_to_unlike_houses(self):
        tried = 0
        for draw in draws(80, "orders"):
            world = drawn_world(draw)
            for deed, told in drawn_steps(draw, world, 60):
                letters = world.letters()
                if len(letters) < 2 or draw.random() < 0.5:
                    continue
                (one, first), (other, second) = draw.sample(letters, 2)
                if first[3] != second[3]:
                    ahead, behind = world.twin(), world.twin()
                    ahead.weave([("give", one), ("give", other)])
                    behind.weave([("give", other), ("give", one)])
                    self.assertTrue(ahead == behind)
                    tried += 1
        self.assertGreater(tried, 500)


if __name__ == "__main__":
    unittest.main()
