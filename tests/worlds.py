"""Worlds that several files of tests begin with, and what they ask of them."""

from heldhints.ring import Ring
from heldhints.world import World

# The homes of k (place 11) with two copies are b and c, of z (26) c and d, of ab (7) b and c, of lc (63) a and b.
MARKS = [(0, "a"), (20, "b"), (40, "c"), (50, "d")]
HOMES = {"k": ["b", "c"], "z": ["c", "d"], "ab": ["b", "c"], "lc": ["a", "b"]}


def four(**parts):
    """A world of the houses a to d, of two copies, where nothing else is told."""
    return World(Ring(MARKS), **{"copies": 2, "write": 2, "read": 2, **parts})


def plant(world, name, word, cell, place=None):
    """A house of the world has this cell or note from somewhere."""
    world.own_houses[name].keep(word, cell, place=place)


def under_way(world):
    """The letters alone, by their numbers."""
    return [letter for number, letter in world.letters()]


def all_of_it(world):
    """A world as a text in which each change would show, its log, book and letters' numbers too."""
    book = world.own_book
    asks = [(asking.state(), asking.own_losses, asking.own_ask.held()) for asking in world.own_asks]
    parts = [world.state(), asks, world.letters(), world.own_post.own_next, world.log(), world.own_mending,
             sorted(book.own_made.items()), book.told(), book.swept(), book.losses()]
    return repr(parts)
