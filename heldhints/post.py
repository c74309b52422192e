"""Letters under way, numbered as they are written."""

from heldhints.errors import NoLetter


class Post:
    """Letters (word, ask, own, other, key, cell, home) by their numbers."""

    def __init__(self):
        self.own_letters = {}
        self.own_next = 0

    def send(self, letter):
        """A letter is under way, with the next number."""
        self.own_letters[self.own_next] = letter
        self.own_next += 1

    def letter(self, number):
        """The letter of a number, that is under way."""
        if number not in self.own_letters:
            raise NoLetter(number)
        return self.own_letters[number]

    def drop(self, number):
        """A letter is no more."""
        self.letter(number)
        del self.own_letters[number]

    def under_way(self):
        """All letters, tuples (number, letter), by numbers."""
        return [(number, self.own_letters[number]) for number in sorted(self.own_letters)]

    def state(self):
        """All letters in an order that hangs on none of their numbers."""
        # By repr, since some parts are None here and texts or numbers there.
        return tuple(sorted(list(self.own_letters.values()), key=lambda letter: repr(letter)))

    def twin(self):
        """A post alike, that goes on by itself."""
        other = Post()
        other.own_letters = dict(self.own_letters)
        other.own_next = self.own_next
        return other

    def __len__(self):
        return len(self.own_letters)
