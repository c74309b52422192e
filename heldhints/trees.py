"""Trees over the dots of cells, by which two houses find the keys that they have unlike."""

from heldhints.cells import dots_of
from heldhints.ring import look_at_key, place_of

LEAF_LEVEL = 6


class Tree:
    """The dots of cells by keys, in nodes (level, number); those that are None are not kept."""

    def __init__(self, cells=None):
        self.own_nodes = {}
        if cells is not None:
            # All keys ahead of all cells, whatever the order of the dict.
            for key in cells:
                look_at_key(key)
            for key in cells:
                self.put(key, cells[key])

    def put(self, key, cell):
        """A key has this cell in the stead of its elder one; tells how many nodes are otherwise then."""
        look_at_key(key)
        dots = dots_of(cell)
        place = place_of(key)
        rows = [row for row in self.leaf(place) or () if row[0] != key]
        if dots:
            rows.append((key, dots))
        return self.turn_leaf(place, tuple(sorted(rows)) or None)

    def turn_leaf(self, place, leaf):
        """A leaf becomes another one, and so each node above it; tells how many are otherwise then."""
        turned = self.turn_node(LEAF_LEVEL, place, leaf)
        number = place
        for level in reversed(range(LEAF_LEVEL)):
            number = number // 2
            below = (self.node(level + 1, 2 * number), self.node(level + 1, 2 * number + 1))
            turned += self.turn_node(level, number, None if below == (None, None) else below)
        return turned

    def turn_node(self, level, number, node):
        """A node becomes another one; tells 1 where it is otherwise then, else 0."""
        if node == self.node(level, number):
            return 0
        if node is None:
            del self.own_nodes[(level, number)]
        else:
            self.own_nodes[(level, number)] = node
        return 1

    def node(self, level, number):
        """The node of a level and a number, or None."""
        return self.own_nodes.get((level, number))

    def leaf(self, place):
        """The keys at a place with their dots, or None."""
        return self.node(LEAF_LEVEL, place)

    def words(self):
        """The keys that have something, sorted."""
        leaves = [node for (level, number), node in self.own_nodes.items() if level == LEAF_LEVEL]
        return sorted([key for leaf in leaves for key, dots in leaf])

    def twin(self):
        """A tree alike, that goes on by itself."""
        other = Tree()
        other.own_nodes = {place: self.own_nodes[place] for place in self.own_nodes}
        return other

    def __eq__(self, other):
        return isinstance(other, Tree) and self.node(0, 0) == other.node(0, 0)

    def __len__(self):
        return len(self.words())


def differing(one, other):
    """(keys, looked): the keys of which two trees have unlike dots, and how many pairs of nodes were looked at."""
    keys = []
    looked = 0
    ahead = [(0, 0)]
    while ahead:
        level, number = ahead.pop()
        looked += 1
        if one.node(level, number) == other.node(level, number):
            continue
        if level == LEAF_LEVEL:
            keys += unlike_keys(one.leaf(number), other.leaf(number))
        else:
            ahead += [(level + 1, 2 * number), (level + 1, 2 * number + 1)]
    return (sorted(keys), looked)


def unlike_keys(one, other):
    """The keys that stand with unlike dots in two leaves, or in just one of them."""
    ours = dict(one or ())
    theirs = dict(other or ())
    return [key for key in {**ours, **theirs} if ours.get(key) != theirs.get(key)]
