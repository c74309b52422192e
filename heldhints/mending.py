"""Mending: notes are given back and houses compared, until all is calm."""

from heldhints.cells import joined
from heldhints.errors import NoHouse, NoSteps
from heldhints.giving import flow
from heldhints.kinds import is_between
from heldhints.looks import look_at_here
from heldhints.trees import Tree, differing

MOST_ROUNDS = 100


def give_back(world, house):
    """A house sends each of its notes to the home for which it is, by keys, then homes."""
    look_at_here(world, [house])
    keeper = world.own_houses[house]
    for word, home in keeper.notes():
        world.send("bring", None, house, home, word, keeper.note(word, home), None)


def compared(world, one, other):
    """Two houses have the join of each key of which both are homes and that their trees tell."""
    look_at_here(world, [one, other])
    if one == other:
        raise NoHouse(other)
    names = [one, other]
    keys, looked = differing(tree_of_both(world, one, names), tree_of_both(world, other, names))
    for word in keys:
        both = joined([world.own_houses[name].cell(word) for name in names])
        for name in names:
            world.own_houses[name].put_cell(word, both)
    world.record(("compared", one, other, tuple(keys), looked))


def tree_of_both(world, name, names):
    """The tree of a house's cells of those keys of which all these houses are homes."""
    house = world.own_houses[name]
    cells = {}
    for word in house.words():
        homes = world.own_shape.homes(word)
        if all([home in homes for home in names]):
            cells[word] = house.cell(word)
    return Tree(cells)


def calm(world, rounds):
    """Does calm rounds, so many at most, until one turns nothing; tells how many turned something."""
    if not is_between(rounds, 1, MOST_ROUNDS):
        raise NoSteps()
    turned = 0
    while turned < rounds and does_calm_round(world):
        turned += 1
    return turned


def does_calm_round(world):
    """Does one calm round; tells whether it turned some cell or note."""
    ahead = all_kept(world)
    names = [name for name in world.houses() if not world.is_away(name)]
    flow(world)
    for name in names:
        give_back(world, name)
    flow(world)
    for number, one in enumerate(names):
        for other in names[number + 1:]:
            compared(world, one, other)
    return all_kept(world) != ahead


def all_kept(world):
    """The cells and notes of all houses, the last two parts of their states."""
    return [world.one_house(name).state()[3:] for name in world.houses()]
