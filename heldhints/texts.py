"""Cells, rings and weavings as texts, and back: each has one text alone."""

from heldhints.cells import GONE, is_cell, is_mark, look_at_cell
from heldhints.deeds import FORMS, is_deed, look_at_weaving
from heldhints.errors import NoRing, NoText
from heldhints.kinds import is_word, rises
from heldhints.ring import Ring

FIGURES = "0123456789"
MOST_FIGURES = 30
NONE = "-"
MARK_AHEAD = "gone@"


def show_dot(dot):
    """A dot, as NUMBER.HOUSE.LIFE."""
    number, house, life = dot
    return f"{number}.{house}.{life}"


def show_listed(texts):
    """Texts with commas between."""
    return ",".join(texts) or NONE


def show_known(known):
    """The dots of what is known, with commas between."""
    return show_listed([show_dot(dot) for dot in known])


def show_worth(worth):
    """A worth in figures, or a mark."""
    return f"{MARK_AHEAD}{worth[1]}" if is_mark(worth) else str(worth)


def show_version(version):
    """The row of a version."""
    dot, known, worth = version
    return f"{show_dot(dot)} {show_known(known)} {show_worth(worth)}"


def show_deed(deed):
    """The row of a deed."""
    return " ".join([show_part(part) for part in deed])


def show_part(part):
    """A part of a deed: a word, a number, or places."""
    return show_listed([str(place) for place in part]) if isinstance(part, tuple) else str(part)


def show_cell(cell):
    """The text of a cell, a row for each version."""
    look_at_cell(cell)
    return "\n".join([show_version(version) for version in cell])


def show_ring(ring):
    """The text of a ring, a row for each mark, sorted."""
    return "\n".join([f"{place} {house}" for place, house in ring.marks()])


def show_weaving(deeds):
    """The text of a weaving, a row for each deed."""
    look_at_weaving(deeds)
    return "\n".join([show_deed(deed) for deed in deeds])


def read_figures(text):
    """The number from 0 on that is written so; None where none is. So below of all else."""
    if not 1 <= len(text) <= MOST_FIGURES or not all([sign in FIGURES for sign in text]):
        return None
    if text[0] == "0" and len(text) > 1:
        return None
    return int(text)


def read_whole(text):
    """The whole number that is written so, with a sign ahead below nought."""
    if not text.startswith("-"):
        return read_figures(text)
    number = read_figures(text[1:])
    return -number if number else None


def read_all(texts, read_one):
    """A tuple of what all these texts are read to, None where one of them is read to none."""
    told = tuple([read_one(text) for text in texts])
    return None if any([thing is None for thing in told]) else told


def read_dot(text):
    """The dot, by its form."""
    parts = text.split(".")
    if len(parts) != 3 or not is_word(parts[1]):
        return None
    number = read_figures(parts[0])
    life = read_figures(parts[2])
    return None if number is None or life is None else (number, parts[1], life)


def read_known(text):
    """The dots of what is known, by their form."""
    return () if text == NONE else read_all(text.split(","), read_dot)


def read_worth(text):
    """The worth, by its form."""
    if not text.startswith(MARK_AHEAD):
        return read_whole(text)
    time = read_figures(text[len(MARK_AHEAD):])
    return None if time is None else (GONE, time)


def read_version(text):
    """The version, by the form of its row."""
    parts = text.split(" ")
    if len(parts) != 3:
        return None
    version = (read_dot(parts[0]), read_known(parts[1]), read_worth(parts[2]))
    return None if any([part is None for part in version]) else version


def read_mark(text, between):
    """The mark of a ring, by its form: its place and its house, this sign between."""
    parts = text.split(between)
    if len(parts) != 2 or not is_word(parts[1]):
        return None
    place = read_figures(parts[0])
    return None if place is None else (place, parts[1])


def read_deed(text):
    """The deed."""
    word, *parts = text.split(" ")
    if word not in FORMS or len(parts) != len(FORMS[word]):
        return None
    deed = (word,) + tuple([read_part(part, form) for part, form in zip(parts, FORMS[word])])
    return deed if is_deed(deed) else None


def read_part(text, form):
    """A part of a deed, by the form that is asked there."""
    if form == "name":
        return text
    if form == "worth":
        return read_whole(text)
    if form == "places":
        return read_all(text.split(","), read_figures)
    return read_figures(text)


def read_rows(text, read_row):
    """What the rows of a text are read to, a list."""
    if not isinstance(text, str):
        raise NoText(0)
    told = [read_row(row) for row in text.split("\n")] if text else []
    for number, thing in enumerate(told):
        if thing is None:
            raise NoText(number)
    return told


def read_cell(text):
    """The cell of a text."""
    cell = tuple(read_rows(text, read_version))
    if not is_cell(cell):
        raise NoText(None)
    return cell


def read_ring(text):
    """The ring of a text."""
    marks = read_rows(text, lambda row: read_mark(row, " "))
    if not rises(marks):
        raise NoText(None)
    try:
        return Ring(marks)
    except NoRing:
        raise NoText(None) from None


def read_weaving(text):
    """The weaving of a text."""
    return read_rows(text, read_deed)
