"""Each deed of a world by its word. They are handed in by their forms, and refuse ahead of all that they change."""

from heldhints.asking import leave, read, write
from heldhints.cells import GONE
from heldhints.errors import Away, Busy, NoHouse
from heldhints.giving import flow, give_numbered
from heldhints.looks import look_at_here, look_at_there
from heldhints.mending import compared, give_back
from heldhints.moving import come_in, go_out
from heldhints.news import News


def do_write(world, deed):
    """(write, asker, house, key, worth)."""
    write(world, deed[1], deed[2], deed[3], deed[4])


def do_gone(world, deed):
    """(gone, asker, house, key)."""
    write(world, deed[1], deed[2], deed[3], (GONE, world.now()))


def do_read(world, deed):
    """(read, asker, house, key)."""
    read(world, deed[1], deed[2], deed[3])


def do_leave(world, deed):
    """(leave, asker)."""
    leave(world, deed[1])


def do_give(world, deed):
    """(give, number)."""
    give_numbered(world, deed[1], False)


def do_twice(world, deed):
    """(twice, number)."""
    give_numbered(world, deed[1], True)


def do_lose(world, deed):
    """(lose, number)."""
    world.own_post.drop(deed[1])


def do_flow(world, deed):
    """(flow,)."""
    flow(world)


def do_away(world, deed):
    """(away, house)."""
    look_at_here(world, [deed[1]])
    world.own_absent[deed[1]] = True


def do_back(world, deed):
    """(back, house): it says so by a number that goes over all doubts."""
    house = deed[1]
    if not world.is_away(house):
        raise Busy(house)
    del world.own_absent[house]
    world.own_news[house].rise()


def do_lost(world, deed):
    """(lost, house), also of one that is away already."""
    house = deed[1]
    look_at_there(world, [house])
    world.own_houses[house].lose_all()
    world.own_news[house] = News(house, world.houses())
    world.own_absent[house] = True
    world.own_book.add_loss()


def do_doubt(world, deed):
    """(doubt, house, other)."""
    house, other = deed[1:]
    look_at_there(world, [house, other])
    if house == other:
        raise NoHouse(other)
    if world.is_away(house):
        raise Away(house)
    world.own_news[house].doubt(other)


def do_news(world, deed):
    """(news, house, other)."""
    house, other = deed[1:]
    look_at_here(world, [house, other])
    world.own_news[other].take(world.own_news[house].entries())


def do_return(world, deed):
    """(return, house)."""
    give_back(world, deed[1])


def do_compare(world, deed):
    """(compare, house, other)."""
    compared(world, deed[1], deed[2])


def do_come(world, deed):
    """(come, house, places)."""
    come_in(world, deed[1], deed[2])


def do_go(world, deed):
    """(go, house)."""
    go_out(world, deed[1])


def do_tick(world, deed):
    """(tick, many)."""
    world.go_on(deed[1])


ACTIONS = {
    "write": do_write,
    "gone": do_gone,
    "read": do_read,
    "leave": do_leave,
    "give": do_give,
    "twice": do_twice,
    "lose": do_lose,
    "flow": do_flow,
    "away": do_away,
    "back": do_back,
    "lost": do_lost,
    "doubt": do_doubt,
    "news": do_news,
    "return": do_return,
    "compare": do_compare,
    "come": do_come,
    "go": do_go,
    "tick": do_tick,
}


def do_deed(world, deed):
    """Does a deed that has the form of one."""
    action = ACTIONS[deed[0]]
    action(world, deed)
