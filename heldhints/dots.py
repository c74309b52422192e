"""Dots, who wrote something as the how manyth, and what is known, a rising tuple of them."""

from heldhints.kinds import is_whole, is_word, rises

GREATEST_NUMBER = 10 ** 12


def is_dot(thing):
    """Whether a thing, of any kind, is a dot: (number, house, life)."""
    if not isinstance(thing, tuple) or len(thing) != 3:
        return False
    number, house, life = thing
    if not is_whole(number) or not is_whole(life) or not is_word(house):
        return False
    return 1 <= number <= GREATEST_NUMBER and life >= 1


def is_known(thing):
    """Whether a thing, of any kind, is a rising tuple of dots, each once."""
    if not isinstance(thing, tuple) or not all([is_dot(dot) for dot in thing]):
        return False
    return rises(thing)


def together(some):
    """All dots that any of some known has."""
    return tuple(sorted({dot for known in some for dot in known}))


def cut(known, most=None):
    """The greatest dots of what is known, so many at most; all of them where most is None."""
    if most is None:
        return known
    return known[max(0, len(known) - most):]


def next_number(own, known):
    """One more than the greatest of an own number and all numbers known."""
    return max([own] + [dot[0] for dot in known]) + 1
