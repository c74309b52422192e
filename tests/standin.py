"""A stand-in for a world, as far as mending asks of one: its houses, who is away, and four deeds."""

from heldhints.house import House
from heldhints.mending import Mendable, notes_to_bring, share_cells
from heldhints.shape import Shape


class StandIn(Mendable):
    def __init__(self, ring, **parts):
        self.own_shape = Shape(ring, **parts)
        self.kept_by = {name: House(name) for name in ring.houses()}
        self.gone_away = set()
        self.under_way = []
        self.done = []
        self.logged = []

    def houses(self):
        return sorted(self.kept_by)

    def is_away(self, name):
        return name in self.gone_away

    def one_house(self, name):
        return self.kept_by[name].twin()

    def do(self, deed):
        self.done.append(deed)
        if deed[0] == "flow":
            self.flow()
        if deed[0] == "return":
            for word, home, cell in notes_to_bring(self.kept_by[deed[1]]):
                self.under_way.append((deed[1], home, word, cell))
        if deed[0] == "compare":
            one, other = deed[1:]
            keys, looked = share_cells(self.own_shape, self.kept_by[one], self.kept_by[other])
            self.logged.append(("compared", one, other, keys, looked))

    def flow(self):
        for own, home, word, cell in self.under_way:
            if home not in self.gone_away:
                self.kept_by[home].keep(word, cell)
                self.kept_by[own].given_back(word, home, [version[0] for version in cell])
        self.under_way = []
