"""A ring of places, on which houses have marks: it tells which houses are the homes of a key."""

from heldhints.errors import NoHouse, NoKey, NoRing
from heldhints.kinds import first_wrong, is_between, is_word

PLACES = 64
MOST_MARKS = 48


def is_key(thing):
    """Whether a thing, of any kind, is a key."""
    return is_word(thing)


def look_at_key(thing):
    """Refuses what is no key."""
    if not is_key(thing):
        raise NoKey()


def is_place(thing):
    """Whether a thing, of any kind, is a place on the ring."""
    return is_between(thing, 0, PLACES - 1)


def place_of(key):
    """The place of a key, which all its letters turn."""
    look_at_key(key)
    place = 0
    for letter in key:
        place = (5 * place + ord(letter) - ord("a") + 1) % PLACES
    return place


def is_ring_mark(thing):
    """Whether a thing, of any kind, is a mark of a ring: (place, house)."""
    if not isinstance(thing, tuple) or len(thing) != 2:
        return False
    place, house = thing
    return is_place(place) and is_word(house)


def look_at_row(row, most, is_right):
    """Refuses what is no list or tuple of one to so many things, each right and unlike the others."""
    if not isinstance(row, (list, tuple)) or not 1 <= len(row) <= most:
        raise NoRing(None)
    number = first_wrong(row, is_right)
    if number is not None:
        raise NoRing(number)


class Ring:
    """Marks (place, house) of some houses; it never changes."""

    def __init__(self, marks):
        look_at_row(marks, MOST_MARKS, is_ring_mark)
        self.own_marks = sorted(marks)

    def marks(self):
        """All marks, sorted."""
        return list(self.own_marks)

    def houses(self):
        """All houses, sorted."""
        return sorted({house for place, house in self.own_marks})

    def order(self, key):
        """All houses, each once, as one meets them from the key's place on, once around."""
        start = place_of(key)
        ahead = [house for place, house in self.own_marks if place >= start]
        behind = [house for place, house in self.own_marks if place < start]
        # A dict keeps the order in which its keys were met first.
        return list({house: True for house in ahead + behind})

    def homes(self, key, copies):
        """The first so many houses of the key's order."""
        return self.order(key)[:copies]

    def with_house(self, house, places):
        """The ring with a house more, at these places."""
        if not is_word(house) or house in self.houses():
            raise NoHouse(house)
        look_at_row(places, MOST_MARKS - len(self.own_marks), is_place)
        return Ring(self.own_marks + [(place, house) for place in places])

    def without(self, house):
        """The ring without a house that is there."""
        if not is_word(house) or house not in self.houses():
            raise NoHouse(house)
        # Where no mark is left the ring itself refuses, with None.
        return Ring([mark for mark in self.own_marks if mark[1] != house])

    def __eq__(self, other):
        return isinstance(other, Ring) and self.own_marks == other.own_marks

    def __len__(self):
        return len(self.houses())
