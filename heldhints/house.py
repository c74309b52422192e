"""A house, which keeps cells of its own and notes for other houses."""

from heldhints.cells import is_elder, joined, look_at_cell, without_elder
from heldhints.dots import next_number


def put_or_drop(cells, key, cell):
    """A cell stands by its key in the stead of the elder one; an empty one is none."""
    if cell:
        cells[key] = cell
    elif key in cells:
        del cells[key]


def without_elder_marks(cells, time):
    """The cells by their keys without the marks of this time, or ahead of it; empty ones are none."""
    left = {key: without_elder(cells[key], time) for key in cells}
    return {key: left[key] for key in left if left[key]}


class House:
    """A name, a life, an own number, cells by keys, and notes by keys and the houses for which they are."""

    def __init__(self, called, life=1):
        self.own_name = called
        self.own_life = life
        self.own_number = 0
        self.own_cells = {}
        self.own_notes = {}

    def called(self):
        """Its name."""
        return self.own_name

    def life(self):
        """Which of its lives this is."""
        return self.own_life

    def counted(self):
        """Its own number, that of its last dot."""
        return self.own_number

    def new_dot(self, known):
        """A dot that is greater than all that are known."""
        self.own_number = next_number(self.own_number, known)
        return (self.own_number, self.own_name, self.own_life)

    def keep(self, word, cell, *, place=None):
        """Joins a cell of a key to its own one or, for another house, to the note."""
        if place is None or place == self.own_name:
            self.put_cell(word, joined([self.cell(word), cell]))
        else:
            self.put_note(word, place, joined([self.note(word, place), cell]))

    def cell(self, word):
        """Its cell of a key."""
        return self.own_cells.get(word, ())

    def note(self, word, place):
        """Its note of a key for a house."""
        return self.own_notes.get((word, place), ())

    def all_of(self, word):
        """Its cell of a key and all its notes of it, joined all at once."""
        return joined([self.cell(word)] + [self.own_notes[key] for key in self.notes() if key[0] == word])

    def words(self):
        """The keys of which it has a cell, sorted."""
        return sorted(self.own_cells)

    def notes(self):
        """Its notes, sorted tuples (key, house)."""
        return sorted(self.own_notes)

    def given_back(self, word, place, dots):
        """Of a note those versions go whose dots are told."""
        left = [version for version in self.note(word, place) if version[0] not in dots]
        self.put_note(word, place, tuple(left))

    def put_cell(self, word, cell):
        """The cell of a key becomes another one; an empty one goes."""
        look_at_cell(cell)
        put_or_drop(self.own_cells, word, cell)

    def put_note(self, word, place, cell):
        """The note of a key for a house becomes another one; an empty one goes."""
        look_at_cell(cell)
        put_or_drop(self.own_notes, (word, place), cell)

    def sweep(self, time):
        """Marks of a time, or ahead of it, go everywhere; tells their dots, sorted, each once."""
        cells = list(self.own_cells.values()) + list(self.own_notes.values())
        gone = [version[0] for cell in cells for version in cell if is_elder(version[2], time)]
        self.own_cells = without_elder_marks(self.own_cells, time)
        self.own_notes = without_elder_marks(self.own_notes, time)
        return sorted(set(gone))

    def lose_all(self):
        """Loses all for good and begins its next life."""
        self.own_life += 1
        self.own_number = 0
        self.own_cells = {}
        self.own_notes = {}

    def state(self):
        """(name, life, number, cells, notes), cells and notes as sorted tuples."""
        cells = tuple([(word, self.cell(word)) for word in self.words()])
        notes = tuple([(word, place, self.note(word, place)) for word, place in self.notes()])
        return (self.own_name, self.own_life, self.own_number, cells, notes)

    def twin(self):
        """A house alike, that goes on by itself."""
        other = House(self.own_name, self.own_life)
        other.own_number = self.own_number
        other.own_cells = {word: self.own_cells[word] for word in self.own_cells}
        other.own_notes = {key: self.own_notes[key] for key in self.own_notes}
        return other

    def __eq__(self, other):
        return isinstance(other, House) and self.state() == other.state()

    def __len__(self):
        return len(self.own_cells)
