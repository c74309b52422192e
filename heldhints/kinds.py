"""Whole numbers, words and rows of them, which all other files ask after."""

LETTERS = "abcdefghijklmnopqrstuvwxyz"
LONGEST_WORD = 6


def is_whole(thing):
    """Whether a thing, of any kind, is a whole number; True and False are none."""
    return isinstance(thing, int) and not isinstance(thing, bool)


def is_between(thing, least, greatest):
    """Whether a thing, of any kind, is a whole number from the least to the greatest."""
    return is_whole(thing) and least <= thing <= greatest


def is_word(thing):
    """Whether a thing, of any kind, is a text of one to six small letters."""
    if not isinstance(thing, str) or not 1 <= len(thing) <= LONGEST_WORD:
        return False
    # Spelled out, since islower and isalpha also take letters beyond a to z.
    return all([letter in LETTERS for letter in thing])


def rises(row):
    """Whether each thing of a row is greater than the one ahead of it."""
    return all([one < other for one, other in zip(row, row[1:])])


def first_wrong(things, is_right):
    """The number of the first thing that is not right, or stood ahead; None where there is none."""
    for number, thing in enumerate(things):
        # In this order: what is not right may be a thing that cannot be compared.
        if not is_right(thing) or thing in things[:number]:
            return number
    return None
