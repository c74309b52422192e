"""All ends to which letters under way may come, and weavings in which a reading lacks or a gone worth comes back."""

from heldhints.deeds import is_deed
from heldhints.errors import Away, Busy, HintError, NoAsk, NoAsker, NoHouse, NoLetter, NoRing, NoShape, NoSteps, TooMany
from heldhints.judge import risen
from heldhints.kinds import is_between
from heldhints.ring import Ring, is_key, place_of
from heldhints.shape import LONGEST_KEEP, MOST_COPIES
from heldhints.world import World

MOST_STANDS = 10 ** 6
SOME_KEEP = 20
BARRED = ("lost", "come", "go", "tick")
BARRED_STRICTLY = ("doubt", "news", "lost", "come", "go", "tick")

# Of these are the weavings that are told: twice as many houses as copies, one behind the other from the key on.
HOUSES = ("a", "b", "c", "d", "e", "f", "g", "h", "i", "j")
KEY = "k"


def all_ends(world, *, most=2000):
    """(stands, ends): how many stands are gone through as letters are given in all orders, and where that ends."""
    if not is_between(most, 1, MOST_STANDS):
        raise NoSteps()
    ends = {}
    seen = {stand_of(world): True}
    ahead = [world.twin()]
    while ahead:
        stand = ahead.pop()
        if not stand.letters():
            end = end_of(stand)
            ends[repr(end)] = end
        for later in all_next(stand):
            name = stand_of(later)
            if name not in seen:
                seen[name] = True
                ahead.append(later)
        if len(seen) > most:
            raise TooMany(most)
    return (len(seen), [ends[name] for name in sorted(ends)])


def stand_of(world):
    """A text that is alike for worlds that are, and whose logs are."""
    return repr((world.state(), world.log()))


def end_of(world):
    """(log, states of the houses)."""
    return (tuple(world.log()), tuple([world.one_house(name).state() for name in world.houses()]))


def all_next(world):
    """Each world that comes of a letter of this one that is given."""
    told = []
    for number, letter in world.letters():
        later = world.twin()
        later.do(("give", number))
        told.append(later)
    return told


def look_at_counts(thing):
    """Refuses what is no (copies, write, read)."""
    if not isinstance(thing, tuple) or len(thing) != 3:
        raise NoShape("counts")
    copies, write, read = thing
    if not is_between(copies, 1, MOST_COPIES) or not is_between(write, 1, copies) or not is_between(read, 1, copies):
        raise NoShape("counts")


def look_at_keep(thing):
    """Refuses what is no keep."""
    if not is_between(thing, 1, LONGEST_KEEP):
        raise NoShape("keep")


def new_world(marks, counts, keep):
    """The world of the ring of these marks and these counts."""
    copies, write, read = counts
    return World(Ring(marks), copies=copies, write=write, read=read, most=None, keep=keep)


def world_of(marks, counts, keep):
    """The same, of anything as marks: None where no world comes of it."""
    try:
        return new_world(marks, counts, keep)
    except (NoRing, NoShape):
        return None


def done(world, deed):
    """What is told of a deed, or None where it is refused."""
    try:
        return world.do(deed)
    except (HintError, NoHouse, NoAsker, NoAsk, NoLetter, Busy, Away):
        return None


def is_weaving(thing):
    """Whether a thing, of any kind, is a list of deeds."""
    return isinstance(thing, list) and all([is_deed(deed) for deed in thing])


def lets_lack(counts, thing, *, strict=True):
    """Whether a thing, of any kind, is a weaving that lacks: (marks, deeds)."""
    look_at_counts(counts)
    if not isinstance(thing, tuple) or len(thing) != 2 or not is_weaving(thing[1]):
        return False
    marks, deeds = thing
    barred = BARRED_STRICTLY if strict else BARRED
    if any([deed[0] in barred for deed in deeds]):
        return False
    world = world_of(marks, counts, SOME_KEEP)
    return world is not None and some_reading_lacks(world, deeds)


def some_reading_lacks(world, deeds):
    """Does all deeds; tells whether none is refused, and some reading lacks a writing told ahead of it."""
    lacks = False
    # By askers, of whose asks one at most is under way: the writings told ahead of it.
    ahead = {}
    for deed in deeds:
        if deed[0] == "read":
            ahead[deed[1]] = told_of(world, deed[3])
        things = done(world, deed)
        if things is None:
            return False
        for thing in things:
            if thing[0] == "told":
                lacks = lacks or has_none_of_one(world.book(), ahead[thing[1]], thing[4])
    return lacks


def told_of(world, word):
    """The dots of the writings of a key that were told so far."""
    return [telling[0] for telling in world.book().told() if telling[1] == word]


def has_none_of_one(book, dots, known):
    """Whether of one of the dots nothing that came of it is known."""
    return any([not any([came in known for came in book.came_of(dot)]) for dot in dots])


def lets_return(counts, thing, *, keep=20):
    """Whether a thing, of any kind, is a weaving that comes back: (marks, deeds, key)."""
    look_at_counts(counts)
    look_at_keep(keep)
    if not isinstance(thing, tuple) or len(thing) != 3 or not is_weaving(thing[1]) or not is_key(thing[2]):
        return False
    marks, deeds, word = thing
    world = world_of(marks, counts, keep)
    if world is None:
        return False
    for deed in deeds:
        if done(world, deed) is None:
            return False
    return len(risen(world, word)) > 0


def marks_of(houses):
    """Marks by which the key's order is this one."""
    return [(place_of(KEY) + number, house) for number, house in enumerate(houses)]


def give_all(world, is_given):
    """Gives all letters that are to be given, those too that come of it; tells the deeds."""
    deeds = []
    some = letters_to_give(world, is_given)
    while some:
        world.weave(some)
        deeds += some
        some = letters_to_give(world, is_given)
    return deeds


def letters_to_give(world, is_given):
    """The deeds that give those letters under way that are to be given."""
    return [("give", number) for number, letter in world.letters() if is_given(number, letter)]


def lacking(counts, *, strict=True):
    """A weaving that lacks, or None where there is none."""
    look_at_counts(counts)
    copies, write, read = counts
    homes = HOUSES[:copies]
    if write + read <= copies:
        # Those that are written to are others than those that are read.
        return lack_between(counts, homes, (), homes[:write], homes[copies - read:])
    if strict:
        return None
    # A house that thinks all homes away writes to others alone, which stand in.
    houses = HOUSES[:2 * copies]
    return lack_between(counts, houses, homes, houses[copies:copies + write], homes[:read])


def lack_between(counts, houses, doubted, writers, readers):
    """A weaving in which some houses are written to and others are read; the first writer doubts some houses."""
    marks = marks_of(houses)
    world = new_world(marks, counts, SOME_KEEP)
    deeds = [("doubt", writers[0], house) for house in doubted]
    deeds.append(("write", "me", writers[0], KEY, 1))
    world.weave(deeds)
    deeds += give_all(world, lambda number, letter: letter[2] in writers and letter[3] in writers)
    asks = ("read", "you", readers[0], KEY)
    world.do(asks)
    deeds.append(asks)
    deeds += give_all(world, lambda number, letter: letter[2] in readers and letter[3] in readers)
    return (marks, deeds)


def returning(counts, *, keep=20):
    """A weaving that comes back, or None where there is one copy."""
    look_at_counts(counts)
    look_at_keep(keep)
    copies = counts[0]
    if copies == 1:
        return None
    marks = marks_of(HOUSES[:copies])
    world = new_world(marks, counts, keep)
    # The first letter is given twice: the second time when the mark is let go everywhere.
    deeds = [("write", "me", HOUSES[0], KEY, 1), ("twice", 0)]
    world.weave(deeds)
    deeds += give_all(world, lambda number, letter: number != 0)
    goes = ("gone", "me", HOUSES[0], KEY)
    world.do(goes)
    deeds.append(goes)
    deeds += give_all(world, lambda number, letter: number != 0)
    return (marks, deeds + [("tick", keep), ("give", 0)], KEY)
