"""Askers, who carry what they were told of each key, and have one ask under way at most."""

from heldhints.dots import is_known, together
from heldhints.errors import Busy, NoAsk, NoAsker, NoKnown
from heldhints.kinds import is_whole, is_word
from heldhints.ring import look_at_key


class Asker:
    """A name, the dots known of each key, the ask under way, and the tellings that were heard."""

    def __init__(self, called):
        if not is_word(called):
            raise NoAsker(called)
        self.own_name = called
        # By keys; those of which nothing is known are none.
        self.own_known = {}
        self.own_busy = None
        self.own_tellings = []

    def called(self):
        """Its name."""
        return self.own_name

    def known(self, word):
        """The dots that it knows of a key."""
        look_at_key(word)
        return self.own_known.get(word, ())

    def learn(self, word, known):
        """It knows of a key what it knew and this, together; tells whether it didn't know all of it."""
        elder = self.known(word)
        if not is_known(known):
            raise NoKnown()
        both = together([elder, known])
        if both:
            self.own_known[word] = both
        return both != elder

    def begin(self, number):
        """An ask of this number is under way."""
        if self.own_busy is not None:
            raise Busy(self.own_name)
        self.own_busy = number

    def leave_off(self):
        """The ask under way is so no more; tells its number."""
        if self.own_busy is None:
            raise NoAsk(None)
        number = self.own_busy
        self.own_busy = None
        return number

    def hear(self, number, word, worths, known):
        """The answer of an ask: where that is the one under way it is learnt, kept and over; tells whether it was."""
        if not is_whole(number) or number != self.own_busy:
            return False
        telling = (number, word, None if worths is None else tuple(worths))
        # What is refused here leaves the ask under way.
        self.learn(word, known)
        self.own_busy = None
        self.own_tellings.append(telling)
        return True

    def busy(self):
        """The number of the ask under way, or None."""
        return self.own_busy

    def tellings(self):
        """What was heard, tuples (number, key, worths), as they came."""
        return list(self.own_tellings)

    def words(self):
        """The keys of which it knows something, sorted."""
        return sorted(self.own_known)

    def state(self):
        """(name, under way, tellings, known), all by which askers are alike."""
        known = tuple([(word, self.own_known[word]) for word in self.words()])
        return (self.own_name, self.own_busy, tuple(self.own_tellings), known)

    def twin(self):
        """An asker alike, that goes on by itself."""
        other = Asker(self.own_name)
        other.own_known = dict(self.own_known)
        other.own_busy = self.own_busy
        other.own_tellings = self.tellings()
        return other

    def __eq__(self, other):
        return isinstance(other, Asker) and self.state() == other.state()

    def __len__(self):
        return len(self.own_tellings)
