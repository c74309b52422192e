"""Versions of a worth, each with its dot and what its writer knew, and cells, those kept beside each other."""

from heldhints.dots import cut, is_dot, is_known, together
from heldhints.errors import NoCell, NoVersion
from heldhints.kinds import is_whole, rises

GREATEST_WORTH = 10 ** 9
GONE = "gone"


def is_mark(thing):
    """Whether a thing, of any kind, is the mark of a gone worth: (gone, time)."""
    if not isinstance(thing, tuple) or len(thing) != 2:
        return False
    word, time = thing
    if not isinstance(word, str) or not is_whole(time):
        return False
    return word == GONE and time >= 0


def is_worth(thing):
    """Whether a thing, of any kind, is a number that may be kept, or a mark."""
    if is_whole(thing):
        return -GREATEST_WORTH <= thing <= GREATEST_WORTH
    return is_mark(thing)


def is_version(thing):
    """Whether a thing, of any kind, is a version: (dot, known, worth), its dot not known."""
    if not isinstance(thing, tuple) or len(thing) != 3:
        return False
    dot, known, worth = thing
    if not is_dot(dot) or not is_known(known) or not is_worth(worth):
        return False
    return dot not in known


def all_known(versions):
    """What any of the versions knows, as a dict, so that asking it stays quick in large cells."""
    return {dot: True for version in versions for dot in version[1]}


def is_cell(thing):
    """Whether a thing, of any kind, is a cell: rising versions, none of which another one puts out."""
    if not isinstance(thing, tuple) or not all([is_version(version) for version in thing]):
        return False
    dots = [version[0] for version in thing]
    known = all_known(thing)
    # No version knows its own dot, so a known one is put out by another version.
    return rises(dots) and not any([dot in known for dot in dots])


def look_at_cell(thing):
    """Refuses what is no cell."""
    if not is_cell(thing):
        raise NoCell()


def puts_out(one, other):
    """Whether one version knows the dot of another one."""
    return other[0] in one[1]


def new_version(dot, known, worth, *, most=None):
    """The version of these, which knows so many dots at most."""
    # Asked ahead of the cut: a dot that its writer knew is wrong even where the cut would hide it.
    if not is_version((dot, known, worth)):
        raise NoVersion()
    return (dot, cut(known, most), worth)


def joined(cells):
    """The cell of all versions of some cells that none of them all puts out."""
    if not isinstance(cells, (list, tuple)):
        raise NoCell()
    for cell in cells:
        look_at_cell(cell)
    versions = [version for cell in cells for version in cell]
    by_dots = {version[0]: version for version in versions}
    # Of all versions, since one that is put out itself still puts out others.
    known = all_known(versions)
    return tuple([by_dots[dot] for dot in sorted(by_dots) if dot not in known])


def without_elder(cell, time):
    """The cell without the marks of this time, or ahead of it."""
    look_at_cell(cell)
    return tuple([version for version in cell if not is_elder(version[2], time)])


def is_elder(worth, time):
    """Whether a worth is a mark of this time, or ahead of it."""
    return is_mark(worth) and worth[1] <= time


def dots_of(cell):
    """The dots of a cell's versions, in order."""
    look_at_cell(cell)
    return tuple([version[0] for version in cell])


def known_by(cell):
    """What a cell's reader knows: all its dots and all that its versions know."""
    return together([dots_of(cell)] + [version[1] for version in cell])


def worths_of(cell):
    """The worths of a cell that are no marks, in the order of its versions."""
    look_at_cell(cell)
    return [version[2] for version in cell if not is_mark(version[2])]


def has_or_more(cell, dots):
    """Whether a cell has each of the dots, or a version that knows it."""
    known = known_by(cell)
    return all([dot in known for dot in dots])
