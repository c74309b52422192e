"""The shape of a world: its ring, how many copies there are and how many must answer, and what is cut and kept."""

from heldhints.errors import NoShape
from heldhints.kinds import is_between
from heldhints.ring import Ring

MOST_COPIES = 5
MOST_KNOWN = 99
LONGEST_KEEP = 10 ** 6


def look_at_shape(ring, copies, write, read, most, keep):
    """Refuses parts of which no shape comes, with the name of the first wrong one."""
    if not isinstance(ring, Ring):
        raise NoShape("ring")
    if not is_between(copies, 1, min(MOST_COPIES, len(ring))):
        raise NoShape("copies")
    if not is_between(write, 1, copies):
        raise NoShape("write")
    if not is_between(read, 1, copies):
        raise NoShape("read")
    if most is not None and not is_between(most, 0, MOST_KNOWN):
        raise NoShape("most")
    if not is_between(keep, 1, LONGEST_KEEP):
        raise NoShape("keep")


class Shape:
    """What a world is made of; it never changes."""

    def __init__(self, ring, *, copies=3, write=2, read=2, most=8, keep=20):
        look_at_shape(ring, copies, write, read, most, keep)
        self.own_ring = ring
        self.own_counts = (copies, write, read)
        self.own_most = most
        self.own_keep = keep

    def ring(self):
        """Its ring."""
        return self.own_ring

    def counts(self):
        """(copies, write, read)."""
        return self.own_counts

    def most(self):
        """How many dots a version knows, or None."""
        return self.own_most

    def kept(self):
        """How long marks are kept."""
        return self.own_keep

    def homes(self, word):
        """The homes of a key."""
        return self.own_ring.homes(word, self.own_counts[0])

    def with_ring(self, ring):
        """The shape of another ring, and alike in all else."""
        copies, write, read = self.own_counts
        return Shape(ring, copies=copies, write=write, read=read, most=self.own_most, keep=self.own_keep)

    def __eq__(self, other):
        return (isinstance(other, Shape) and self.own_ring == other.own_ring and self.own_counts == other.own_counts
                and self.own_most == other.own_most and self.own_keep == other.own_keep)
