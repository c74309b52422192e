"""How askers ask the houses of a world, and what its houses do with the answers."""

from heldhints.askers import Asker
from heldhints.asks import Reading, Writing, targets
from heldhints.cells import new_version
from heldhints.errors import Busy, NoAsker
from heldhints.looks import look_at_here


class Asking:
    """An ask of a world: its asker, the house that has it, in which life, the Writing or Reading, losses ahead."""

    def __init__(self, asker, house, life, ask, losses):
        self.own_asker = asker
        self.own_house = house
        self.own_life = life
        self.own_ask = ask
        self.own_losses = losses

    def state(self):
        """All by which asks are alike, whatever the order of their answers."""
        return (self.own_asker, self.own_house, self.own_life, self.own_ask.state())

    def twin(self):
        """An ask alike, that goes on by itself."""
        return Asking(self.own_asker, self.own_house, self.own_life, self.own_ask.twin(), self.own_losses)


def look_at_asked(world, asker, house):
    """Refuses a house that can't be asked, then an asker that waits still."""
    look_at_here(world, [house])
    if asker in world.own_askers and world.own_askers[asker].busy() is not None:
        raise Busy(asker)


def one_asker(world, name):
    """The asker of this name, new where it is new."""
    if name not in world.own_askers:
        world.own_askers[name] = Asker(name)
    return world.own_askers[name]


def targets_by(world, house, word):
    """Whom an ask of a key goes to, by the news of the house that has it."""
    news = world.own_news[house]
    shape = world.own_shape
    return targets(shape.ring().order(word), shape.counts()[0], lambda name: news.here(name))


def begin(world, asker, house, ask):
    """An ask is begun; tells its number."""
    number = len(world.own_asks)
    life = world.own_houses[house].life()
    world.own_asks.append(Asking(asker, house, life, ask, world.own_book.losses()))
    one_asker(world, asker).begin(number)
    return number


def write(world, asker, house, word, worth):
    """An asker asks a house to write a worth, or a mark."""
    look_at_asked(world, asker, house)
    writer = world.own_houses[house]
    known = one_asker(world, asker).known(word)
    version = new_version(writer.new_dot(known), known, worth, most=world.own_shape.most())
    world.own_book.add_version(word, version, known)
    some = targets_by(world, house, word)
    number = begin(world, asker, house, Writing(word, version, some, world.own_shape.counts()[1]))
    send_to_others(world, "keep", number, (version,))
    if house in dict(some):
        writer.keep(word, (version,), place=dict(some)[house])
        hear_kept(world, number, house)


def read(world, asker, house, word):
    """An asker asks a house what there is of a key."""
    look_at_asked(world, asker, house)
    some = targets_by(world, house, word)
    number = begin(world, asker, house, Reading(word, some, world.own_shape.counts()[2]))
    send_to_others(world, "tell", number, ())
    if house in dict(some):
        hear_said(world, number, house, world.own_houses[house].all_of(word))


def send_to_others(world, word, number, cell):
    """A letter goes to each target of an ask, but to the house that has it."""
    asking = world.own_asks[number]
    for house, home in asking.own_ask.targets():
        if house != asking.own_house:
            world.send(word, number, asking.own_house, house, asking.own_ask.word(), cell, home)


def leave(world, asker):
    """An asker waits no more."""
    if asker not in world.own_askers:
        raise NoAsker(asker)
    world.own_askers[asker].leave_off()


def is_forgotten(world, asking):
    """Whether the house of an ask lost all since it was begun, and knows nothing of it."""
    return world.own_houses[asking.own_house].life() != asking.own_life


def hear_kept(world, number, name):
    """The house of a writing hears that another one, or itself, has it."""
    asking = world.own_asks[number]
    writing = asking.own_ask
    if is_forgotten(world, asking) or not writing.answered(name):
        return
    word = writing.word()
    dot = writing.version()[0]
    world.own_book.add_telling(dot, word, writing.held(), asking.own_losses)
    if world.own_askers[asking.own_asker].hear(number, word, None, (dot,)):
        world.record(("wrote", asking.own_asker, word, dot))


def hear_said(world, number, name, cell):
    """The house of a reading hears what another one, or itself, has."""
    asking = world.own_asks[number]
    reading = asking.own_ask
    if is_forgotten(world, asking):
        return
    was_told = reading.is_told()
    to_mend = reading.answered(name, cell)
    if reading.is_told() and not was_told:
        tell_reading(world, number)
    if world.own_mending:
        mend(world, number, to_mend)


def tell_reading(world, number):
    """A reading that has just been told is heard by its asker, if that one still waits."""
    asking = world.own_asks[number]
    word = asking.own_ask.word()
    worths, known = asking.own_ask.told()
    if world.own_askers[asking.own_asker].hear(number, word, worths, known):
        world.record(("told", asking.own_asker, word, tuple(worths), known))


def mend(world, number, to_mend):
    """Targets of a reading get the joined cell; the house that has the reading keeps it at once."""
    asking = world.own_asks[number]
    own = asking.own_house
    word = asking.own_ask.word()
    cell = asking.own_ask.cell()
    for name, home in to_mend:
        if name == own:
            # The answers may be older than the last tick; what is kept has no old marks.
            world.own_houses[own].keep(word, world.without_old(cell), place=home)
        else:
            world.send("mend", number, own, name, word, cell, home)
