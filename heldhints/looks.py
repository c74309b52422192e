"""Which houses are there, and which of them are here: what most deeds of a world refuse first."""

from heldhints.errors import Away, NoHouse
from heldhints.kinds import is_word


def look_at_there(world, names):
    """Refuses the first thing, of any kind, that is no house of the world."""
    for name in names:
        if not is_word(name) or name not in world.own_houses:
            raise NoHouse(name)


def look_at_here(world, names):
    """Refuses what is no house of the world, then the first house that is away."""
    look_at_there(world, names)
    for name in names:
        if name in world.own_absent:
            raise Away(name)
