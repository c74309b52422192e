"""The forms of deeds, tuples of a word and what is told behind it."""

from heldhints.cells import is_worth
from heldhints.errors import NoDeed
from heldhints.kinds import first_wrong, is_between, is_whole, is_word
from heldhints.ring import is_place

LONGEST_TICK = 10 ** 6

# What stands behind each word: a name (of an asker, a house, a key), a worth, a letter's number, places, a time.
FORMS = {
    "write": ("name", "name", "name", "worth"),
    "gone": ("name", "name", "name"),
    "read": ("name", "name", "name"),
    "leave": ("name",),
    "give": ("letter",),
    "twice": ("letter",),
    "lose": ("letter",),
    "flow": (),
    "away": ("name",),
    "back": ("name",),
    "lost": ("name",),
    "doubt": ("name", "name"),
    "news": ("name", "name"),
    "return": ("name",),
    "compare": ("name", "name"),
    "come": ("name", "places"),
    "go": ("name",),
    "tick": ("time",),
}


def is_deed(thing):
    """Whether a thing, of any kind, has the form of a deed."""
    if not isinstance(thing, tuple) or len(thing) == 0:
        return False
    word = thing[0]
    if not isinstance(word, str) or word not in FORMS:
        return False
    parts = thing[1:]
    forms = FORMS[word]
    return len(parts) == len(forms) and all([has_form(part, form) for part, form in zip(parts, forms)])


def has_form(part, form):
    """Whether a part of a deed, of any kind, has the form that is asked there."""
    if form == "name":
        return is_word(part)
    if form == "worth":
        # A mark is a worth too, but it is written by another deed.
        return is_whole(part) and is_worth(part)
    if form == "letter":
        return is_whole(part) and part >= 0
    if form == "time":
        return is_between(part, 1, LONGEST_TICK)
    return are_places(part)


def are_places(thing):
    """Whether a thing, of any kind, is a tuple of one or more unlike places."""
    return isinstance(thing, tuple) and len(thing) > 0 and first_wrong(thing, is_place) is None


def look_at_weaving(thing):
    """Refuses what is no list of deeds, with the number of the first thing that is none."""
    if not isinstance(thing, list):
        raise NoDeed(None)
    for number, deed in enumerate(thing):
        if not is_deed(deed):
            raise NoDeed(number)
