"""Asks under way: whom they go to, who answered, and when they are told."""

from heldhints.cells import joined, known_by, look_at_cell, worths_of


def targets(order, copies, here):
    """Tuples (house, home): each home that is thought here with None, else a spare house that stands in for it."""
    spare = [house for house in order[copies:] if here(house)]
    told = []
    for home in order[:copies]:
        if here(home):
            told.append((home, None))
        elif spare:
            told.append((spare.pop(0), home))
    return told


def is_awaited(some, held, called):
    """Whether a house is one of some targets, and has not answered yet."""
    return called in [house for house, home in some] and called not in held


class Writing:
    """A version under way to some targets, of which so many must answer that they have it."""

    def __init__(self, word, version, some, need):
        self.own_word = word
        self.own_version = version
        self.own_targets = list(some)
        self.own_need = need
        self.own_held = []

    def word(self):
        """Its key."""
        return self.own_word

    def version(self):
        """What is written."""
        return self.own_version

    def targets(self):
        """Whom it goes to, tuples (house, home)."""
        return list(self.own_targets)

    def held(self):
        """Who answered, in the order of their answers."""
        return list(self.own_held)

    def is_told(self):
        """Whether as many answered as must."""
        return len(self.own_held) >= self.own_need

    def answered(self, called):
        """A house has it; tells whether by this very answer as many have as must."""
        if not is_awaited(self.own_targets, self.own_held, called):
            return False
        self.own_held.append(called)
        return len(self.own_held) == self.own_need

    def state(self):
        """All by which writings are alike, whatever the order of their answers."""
        return (self.own_word, self.own_version, tuple(self.own_targets), self.own_need, tuple(sorted(self.own_held)))

    def twin(self):
        """A writing alike, that goes on by itself."""
        other = Writing(self.own_word, self.own_version, self.own_targets, self.own_need)
        other.own_held = self.held()
        return other


class Reading:
    """An ask for the cells of some targets, of which so many must answer."""

    def __init__(self, word, some, need):
        self.own_word = word
        self.own_targets = list(some)
        self.own_need = need
        # By houses, in the order of their answers.
        self.own_answers = {}
        self.own_joined = ()
        self.own_telling = None

    def word(self):
        """Its key."""
        return self.own_word

    def targets(self):
        """Whom it goes to, tuples (house, home)."""
        return list(self.own_targets)

    def held(self):
        """Who answered, in the order of their answers."""
        return list(self.own_answers)

    def is_told(self):
        """Whether as many answered as must."""
        return self.own_telling is not None

    def told(self):
        """(worths, known) by the answers that made enough, or None ahead of that."""
        if self.own_telling is None:
            return None
        worths, known = self.own_telling
        return (list(worths), known)

    def cell(self):
        """The cells of all answers, joined one behind the other."""
        return self.own_joined

    def answered(self, called, cell):
        """A house has this cell; tells whom to mend, tuples (house, home) of targets."""
        look_at_cell(cell)
        if not is_awaited(self.own_targets, self.held(), called):
            return []
        self.own_answers[called] = cell
        self.own_joined = joined([self.own_joined, cell])
        if len(self.own_answers) < self.own_need:
            return []
        if self.own_telling is not None:
            return self.unlike_ones([called])
        self.own_telling = (tuple(worths_of(self.own_joined)), known_by(self.own_joined))
        return self.unlike_ones(self.held())

    def unlike_ones(self, houses):
        """Of houses that answered those whose cell is unlike the joined one, with their homes."""
        homes = dict(self.own_targets)
        return [(house, homes[house]) for house in houses if self.own_answers[house] != self.own_joined]

    def state(self):
        """All by which readings are alike, whatever the order of their answers."""
        answers = tuple([(house, self.own_answers[house]) for house in sorted(self.own_answers)])
        return (self.own_word, tuple(self.own_targets), self.own_need, answers, self.own_joined, self.own_telling)

    def twin(self):
        """A reading alike, that goes on by itself."""
        other = Reading(self.own_word, self.own_targets, self.own_need)
        other.own_answers = {house: self.own_answers[house] for house in self.own_answers}
        other.own_joined = self.own_joined
        other.own_telling = self.own_telling
        return other
