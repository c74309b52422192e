"""A desk, which keeps a world and answers rows of words with texts."""

from heldhints.errors import NoRow, NoWorld
from heldhints.kinds import is_word
from heldhints.mending import calm
from heldhints.ring import Ring
from heldhints.texts import (NONE, read_all, read_deed, read_figures, read_mark, show_dot, show_known, show_listed,
                             show_version, show_worth)
from heldhints.world import World

# What stands behind the first word of each row but those of a world and of a deed.
ROWS = {
    "calm": ("number",),
    "cell": ("word", "word"),
    "note": ("word", "word", "word"),
    "notes": ("word",),
    "homes": ("word",),
    "houses": (),
    "away": (),
    "asked": (),
    "letters": (),
    "time": (),
}


def with_blanks(texts):
    """Texts with blanks between."""
    return " ".join(texts) or NONE


def with_signs(texts):
    """Texts that have blanks themselves, with signs between."""
    return "; ".join(texts) or NONE


def read_row(row):
    """The first word of a row and what the others are read to, a tuple; refuses all else, of any kind."""
    if not isinstance(row, str) or "\n" in row:
        raise NoRow()
    word, *rest = row.split(" ")
    things = read_things(word, rest)
    if things is None:
        raise NoRow()
    return (word, things)


def read_things(word, rest):
    """What the words behind the first one are read to, a tuple, or None."""
    if word == "world":
        return read_world(rest)
    if word == "do":
        return read_all([" ".join(rest)], read_deed)
    if word not in ROWS or len(rest) != len(ROWS[word]):
        return None
    return read_all(list(zip(rest, ROWS[word])), lambda part: read_thing(part[0], part[1]))


def read_thing(text, form):
    """The number or the word, by the form that is asked there, or None."""
    if form == "number":
        return read_figures(text)
    return text if is_word(text) else None


def read_world(rest):
    """(numbers, most, marks), or None; most is None where it is written so."""
    if len(rest) < 6:
        return None
    numbers = read_all(rest[:3] + rest[4:5], read_figures)
    most = read_figures(rest[3])
    marks = read_all(rest[5:], lambda text: read_mark(text, "="))
    if numbers is None or marks is None or most is None and rest[3] != NONE:
        return None
    return (numbers, most, marks)


def new_world(things):
    """The world of what a row of it is read to."""
    (copies, write, read, keep), most, marks = things
    return World(Ring(marks), copies=copies, write=write, read=read, most=most, keep=keep)


def show_came(thing):
    """The text of what came of a deed."""
    word = thing[0]
    if word == "wrote":
        return f"wrote {thing[1]} {thing[2]} {show_dot(thing[3])}"
    if word == "told":
        worths = show_listed([show_worth(worth) for worth in thing[3]])
        return f"told {thing[1]} {thing[2]} {worths} {show_known(thing[4])}"
    if word == "compared":
        return f"compared {thing[1]} {thing[2]} {show_listed(thing[3])} {thing[4]}"
    return f"{word} {thing[1]} {show_listed(thing[2])}"


def show_versions(cell):
    """The versions of a cell."""
    return with_signs([show_version(version) for version in cell])


def answer(world, word, things):
    """The answer to each row that asks a world, or does something to it."""
    if word == "do":
        return with_signs([show_came(thing) for thing in world.do(things[0])])
    if word == "calm":
        return str(calm(world, things[0]))
    if word in ("cell", "note", "notes"):
        return answer_of_house(world.one_house(things[0]), word, things[1:])
    if word == "homes":
        return with_blanks(world.shape().homes(things[0]))
    if word == "houses":
        return with_blanks(world.houses())
    if word == "away":
        return with_blanks([name for name in world.houses() if world.is_away(name)])
    if word == "asked":
        return with_blanks([f"{asker}:{ask}" for asker, ask in world.asked()])
    if word == "letters":
        return with_signs([show_letter(number, letter) for number, letter in world.letters()])
    return str(world.now())


def answer_of_house(house, word, things):
    """The answer to each row that asks one house."""
    if word == "cell":
        return show_versions(house.cell(things[0]))
    if word == "note":
        return show_versions(house.note(things[0], things[1]))
    return with_blanks([f"{key}:{home}" for key, home in house.notes()])


def show_letter(number, letter):
    """A letter under way, as N WORD OWN OTHER KEY."""
    return f"{number} {letter[0]} {letter[2]} {letter[3]} {letter[4]}"


class Desk:
    """It has no world at first."""

    def __init__(self):
        self.own_world = None

    def say(self, row):
        """Answers a row with a text."""
        word, things = read_row(row)
        if word == "world":
            self.own_world = new_world(things)
            return "ok"
        if self.own_world is None:
            raise NoWorld()
        return answer(self.own_world, word, things)
