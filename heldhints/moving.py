"""Houses that come to a world, and go, when all is calm."""

from heldhints.errors import Busy
from heldhints.house import House
from heldhints.news import News


def look_at_calm(world):
    """Refuses a world in which a house is away, a letter is under way, or an asker waits."""
    if world.own_absent:
        raise Busy("away")
    if world.letters():
        raise Busy("letter")
    if world.asked():
        raise Busy("ask")


def come_in(world, house, places):
    """A house comes, at these places."""
    look_at_calm(world)
    shape = world.own_shape.with_ring(world.own_shape.ring().with_house(house, places))
    join_notes(world)
    for news in list(world.own_news.values()):
        news.come(house)
    life = world.own_went.pop(house, 0) + 1
    world.own_houses[house] = House(house, life)
    world.own_news[house] = News(house, world.houses())
    world.record(("came", house, turn_homes(world, shape)))


def go_out(world, house):
    """A house goes."""
    look_at_calm(world)
    shape = world.own_shape.with_ring(world.own_shape.ring().without(house))
    join_notes(world)
    keys = turn_homes(world, shape)
    world.own_went[house] = world.own_houses[house].life()
    del world.own_houses[house]
    del world.own_news[house]
    for news in list(world.own_news.values()):
        news.leave(house)
    world.record(("went", house, keys))


def join_notes(world):
    """All notes are joined to the cells of their homes, one behind the other, and are no more."""
    for name in world.houses():
        house = world.own_houses[name]
        for word, home in house.notes():
            world.own_houses[home].keep(word, house.note(word, home))
            house.put_note(word, home, ())


def turn_homes(world, shape):
    """The world has this shape: cells go to the homes that are new; tells the keys whose homes turned, sorted."""
    turned = []
    for word in all_words(world):
        elder = world.own_shape.homes(word)
        later = shape.homes(word)
        goes_out = [name for name in elder if name not in later]
        comes_in = [name for name in later if name not in elder]
        for leaving, coming in zip(goes_out, comes_in):
            world.own_houses[coming].keep(word, world.own_houses[leaving].cell(word))
            world.own_houses[leaving].put_cell(word, ())
            turned.append(word)
    world.own_shape = shape
    return tuple(turned)


def all_words(world):
    """The keys of which some house has a cell, sorted."""
    return sorted({word for house in list(world.own_houses.values()) for word in house.words()})
