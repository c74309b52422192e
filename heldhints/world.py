"""A world in which all is woven: houses, what they think of each other, letters, asks and askers."""

from heldhints.book import Book
from heldhints.cells import dots_of, without_elder
from heldhints.deeds import is_deed, look_at_weaving
from heldhints.doing import do_deed
from heldhints.errors import NoAsker, NoDeed
from heldhints.house import House
from heldhints.kinds import is_word
from heldhints.looks import look_at_there
from heldhints.news import News
from heldhints.post import Post
from heldhints.shape import Shape


class World:
    """Its own parts are turned by its deeds alone, which stand in doing and the files that doing names."""

    def __init__(self, ring, *, copies=3, write=2, read=2, most=8, keep=20, mending=True):
        self.own_shape = Shape(ring, copies=copies, write=write, read=read, most=most, keep=keep)
        self.own_mending = mending
        names = ring.houses()
        self.own_houses = {name: House(name) for name in names}
        self.own_news = {name: News(name, names) for name in names}
        # The houses that are away, and the lives of those that went.
        self.own_absent = {}
        self.own_went = {}
        self.own_post = Post()
        self.own_asks = []
        self.own_askers = {}
        self.own_time = 0
        self.own_log = []
        self.own_book = Book()

    def do(self, deed):
        """Does a deed; tells what came of it."""
        if not is_deed(deed):
            raise NoDeed(None)
        ahead = len(self.own_log)
        do_deed(self, deed)
        return self.own_log[ahead:]

    def weave(self, deeds):
        """Does deeds one behind the other; tells what came of each."""
        look_at_weaving(deeds)
        return [self.do(deed) for deed in deeds]

    def shape(self):
        """Its Shape, which never changes itself."""
        return self.own_shape

    def houses(self):
        """The names of its houses, sorted."""
        return sorted(self.own_houses)

    def one_house(self, name):
        """A twin of a House."""
        look_at_there(self, [name])
        return self.own_houses[name].twin()

    def thoughts(self, name):
        """A twin of a house's News."""
        look_at_there(self, [name])
        return self.own_news[name].twin()

    def is_away(self, name):
        """Whether a house is away."""
        look_at_there(self, [name])
        return name in self.own_absent

    def now(self):
        """The time."""
        return self.own_time

    def letters(self):
        """The letters under way, tuples (number, letter), by numbers."""
        return self.own_post.under_way()

    def asked(self):
        """Who waits, tuples (asker, ask), sorted."""
        waiting = [name for name in sorted(self.own_askers) if self.own_askers[name].busy() is not None]
        return [(name, self.own_askers[name].busy()) for name in waiting]

    def asker_twin(self, name):
        """A twin of an Asker."""
        if not is_word(name) or name not in self.own_askers:
            raise NoAsker(name)
        return self.own_askers[name].twin()

    def log(self):
        """All that came of deeds, in order."""
        return list(self.own_log)

    def book(self):
        """A twin of its Book."""
        return self.own_book.twin()

    def send(self, word, ask, own, other, key, cell, home):
        """A letter is under way."""
        self.own_post.send((word, ask, own, other, key, cell, home))

    def record(self, thing):
        """Something came of a deed."""
        self.own_log.append(thing)

    def oldest_gone(self):
        """The time of which marks, and of all ahead of it, are let go by now."""
        return self.own_time - self.own_shape.kept()

    def without_old(self, cell):
        """A cell without the marks that are kept no longer."""
        return without_elder(cell, self.oldest_gone())

    def let_go(self, cell):
        """A cell without the marks that are kept no longer, which are let go."""
        fresh = self.without_old(cell)
        left = dots_of(fresh)
        self.own_book.add_swept([dot for dot in dots_of(cell) if dot not in left])
        return fresh

    def go_on(self, many):
        """The time goes on so much, and old marks are let go in all houses."""
        self.own_time += many
        for name in self.houses():
            self.own_book.add_swept(self.own_houses[name].sweep(self.oldest_gone()))

    def state(self):
        """All by which worlds are alike, as tuples of plain things all through."""
        shape = self.own_shape
        names = self.houses()
        return (
            (tuple(shape.ring().marks()), shape.counts(), shape.most(), shape.kept()),
            tuple([self.own_houses[name].state() for name in names]),
            tuple([tuple(self.own_news[name].entries().items()) for name in names]),
            tuple(sorted(self.own_absent)),
            self.own_post.state(),
            tuple([asking.state() for asking in self.own_asks]),
            tuple([self.own_askers[name].state() for name in sorted(self.own_askers)]),
            tuple(sorted(self.own_went.items())),
            self.own_time,
        )

    def twin(self):
        """A world alike, that goes on by itself."""
        copies, write, read = self.own_shape.counts()
        other = World(self.own_shape.ring(), copies=copies, write=write, read=read, most=self.own_shape.most(),
                      keep=self.own_shape.kept(), mending=self.own_mending)
        other.own_houses = {name: self.own_houses[name].twin() for name in self.own_houses}
        other.own_news = {name: self.own_news[name].twin() for name in self.own_news}
        other.own_absent = dict(self.own_absent)
        other.own_went = dict(self.own_went)
        other.own_post = self.own_post.twin()
        other.own_asks = [asking.twin() for asking in self.own_asks]
        other.own_askers = {name: self.own_askers[name].twin() for name in self.own_askers}
        other.own_time = self.own_time
        other.own_log = self.log()
        other.own_book = self.own_book.twin()
        return other

    def __eq__(self, other):
        return isinstance(other, World) and self.state() == other.state()

    def __len__(self):
        return len(self.own_post)
