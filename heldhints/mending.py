"""Mending: notes are given back and houses compared, until all is calm."""

from heldhints.cells import joined
from heldhints.errors import Away, NoHouse, NoSteps
from heldhints.kinds import is_between, is_word
from heldhints.trees import Tree, differing

MOST_ROUNDS = 100


class Mendable:
    """All that mending asks of a world: what has these methods can be mended.

    They stand here since mending changes a world by its deeds alone, and needs no more of it.
    """

    def houses(self):
        """The names of all houses, sorted."""
        raise NotImplementedError("houses")

    def is_away(self, name):
        """Whether a house is away."""
        raise NotImplementedError("is_away")

    def one_house(self, name):
        """A twin of a House."""
        raise NotImplementedError("one_house")

    def do(self, deed):
        """Does a deed."""
        raise NotImplementedError("do")


def look_at_houses(world, names):
    """Refuses what is no house of the world, then houses that are away."""
    houses = world.houses()
    for name in names:
        if not is_word(name) or name not in houses:
            raise NoHouse(name)
    for name in names:
        if world.is_away(name):
            raise Away(name)


def give_back(world, house):
    """A house sends each of its notes to the home for which it is."""
    look_at_houses(world, [house])
    world.do(("return", house))


def compared(world, one, other):
    """Two houses have alike what both are homes of."""
    look_at_houses(world, [one, other])
    if one == other:
        raise NoHouse(other)
    world.do(("compare", one, other))


def notes_to_bring(house):
    """What a house gives back, a list of tuples (key, home, cell), by keys, then homes."""
    return [(word, home, house.note(word, home)) for word, home in house.notes()]


def tree_of_both(shape, house, names):
    """The tree of a house's cells of those keys of which all these houses are homes."""
    cells = {}
    for word in house.words():
        homes = shape.homes(word)
        if all([name in homes for name in names]):
            cells[word] = house.cell(word)
    return Tree(cells)


def share_cells(shape, one, other):
    """Two houses have the join of each key of which both are homes and that their trees tell: (keys, looked)."""
    names = [one.called(), other.called()]
    keys, looked = differing(tree_of_both(shape, one, names), tree_of_both(shape, other, names))
    for word in keys:
        both = joined([one.cell(word), other.cell(word)])
        one.put_cell(word, both)
        other.put_cell(word, both)
    return (tuple(keys), looked)


def calm(world, rounds):
    """Does calm rounds, so many at most, until one turns nothing; tells how many turned something."""
    if not is_between(rounds, 1, MOST_ROUNDS):
        raise NoSteps()
    turned = 0
    while turned < rounds and does_calm_round(world):
        turned += 1
    return turned


def does_calm_round(world):
    """Does one calm round; tells whether it turned some cell or note."""
    ahead = all_kept(world)
    names = [name for name in world.houses() if not world.is_away(name)]
    world.do(("flow",))
    for name in names:
        give_back(world, name)
    world.do(("flow",))
    for number, one in enumerate(names):
        for other in names[number + 1:]:
            compared(world, one, other)
    return all_kept(world) != ahead


def all_kept(world):
    """The cells and notes of all houses, the last two parts of their states."""
    return [world.one_house(name).state()[3:] for name in world.houses()]
