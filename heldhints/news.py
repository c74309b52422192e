"""News: what a house thinks of itself and of others, who is here and who is away."""

from heldhints.dots import GREATEST_NUMBER
from heldhints.errors import NoHouse, NoNews
from heldhints.kinds import is_between, is_word


def is_entry(thing):
    """Whether a thing, of any kind, is an entry: (number, away)."""
    if not isinstance(thing, tuple) or len(thing) != 2:
        return False
    number, away = thing
    return is_between(number, 0, GREATEST_NUMBER) and isinstance(away, bool)


def look_at_news(thing):
    """Refuses what is no dict from words to entries."""
    if not isinstance(thing, dict):
        raise NoNews(None)
    no_words = [key for key in thing if not is_word(key)]
    if no_words:
        # By repr, since keys of unlike kinds cannot be compared themselves.
        raise NoNews(min(no_words, key=lambda key: repr(key)))
    no_entries = [house for house in thing if not is_entry(thing[house])]
    if no_entries:
        raise NoNews(min(no_entries))


class News:
    """What one house thinks: an entry (number, away) for itself and for each other one that it knows."""

    def __init__(self, own, houses):
        self.own_name = own
        self.own_entries = {}
        for name in [own] + list(houses):
            self.come(name)

    def come(self, name):
        """A house comes to be known; one that is known stays as it is."""
        if not is_word(name):
            raise NoHouse(name)
        if name not in self.own_entries:
            self.own_entries[name] = (0, False)

    def leave(self, name):
        """Another house is known no more."""
        self.look_at_other(name)
        del self.own_entries[name]

    def look_at_known(self, name):
        """Refuses what is no known house."""
        if not is_word(name) or name not in self.own_entries:
            raise NoHouse(name)

    def look_at_other(self, name):
        """Refuses what is no known house, and the house itself."""
        self.look_at_known(name)
        if name == self.own_name:
            raise NoHouse(name)

    def doubt(self, name):
        """Another house is thought away; tells whether it wasn't so far."""
        self.look_at_other(name)
        number, away = self.own_entries[name]
        self.own_entries[name] = (number, True)
        return not away

    def rise(self):
        """The house itself is here, by a number that goes over all that was said of it; tells the number."""
        number = self.own_entries[self.own_name][0] + 1
        self.own_entries[self.own_name] = (number, False)
        return number

    def take(self, news):
        """Of each known house the greater entry stays; tells whether some entry is otherwise then."""
        look_at_news(news)
        elder = self.own_entries
        self.own_entries = {name: max(elder[name], news.get(name, elder[name])) for name in elder}
        # A house that hears that it is away knows better.
        if not self.here(self.own_name):
            self.rise()
        return self.own_entries != elder

    def here(self, name):
        """Whether a known house is thought here."""
        return not self.entry(name)[1]

    def entry(self, name):
        """The entry of a known house."""
        self.look_at_known(name)
        return self.own_entries[name]

    def entries(self):
        """All entries, by sorted houses."""
        return {name: self.own_entries[name] for name in sorted(self.own_entries)}

    def called(self):
        """The name of the house itself."""
        return self.own_name

    def twin(self):
        """News alike, that go on by themselves."""
        other = News(self.own_name, [])
        other.own_entries = self.entries()
        return other

    def __eq__(self, other):
        return isinstance(other, News) and self.own_name == other.own_name and self.own_entries == other.own_entries
