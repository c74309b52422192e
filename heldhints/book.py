"""The book of a world: what was ever made, told, lost and let go."""


class Book:
    """Written by a world as things come about; it is only asked by others."""

    def __init__(self):
        # By dots: (key, version, all that its writer knew), since a version itself may have it cut.
        self.own_made = {}
        self.own_told = []
        self.own_losses = 0
        self.own_swept = {}

    def add_version(self, word, version, known):
        """A version of a key was made, by a writer who knew this."""
        self.own_made[version[0]] = (word, version, known)

    def add_telling(self, dot, word, houses, lost):
        """A writing was told, when these houses had answered; so many had been lost ahead of its begin."""
        self.own_told.append((dot, word, tuple(houses), lost))

    def add_loss(self):
        """A house was lost for good."""
        self.own_losses += 1

    def add_swept(self, dots):
        """The marks of these dots were let go."""
        for dot in dots:
            self.own_swept[dot] = True

    def versions(self, word):
        """All versions of a key that were ever made, by dots."""
        return [self.own_made[dot][1] for dot in sorted(self.own_made) if self.own_made[dot][0] == word]

    def told(self):
        """What was told: (dot, key, houses that had answered, how many houses had been lost ahead of its begin)."""
        return list(self.own_told)

    def losses(self):
        """How many losses of houses for good there were."""
        return self.own_losses

    def swept(self):
        """The dots of the marks let go, sorted, each once."""
        return sorted(self.own_swept)

    def came_of(self, dot):
        """A dot, then the dots of all versions whose writers knew it, by way of others too, sorted."""
        came = {dot: True}
        # One way through is enough: a dot is greater than all that its writer knew.
        for made in sorted(self.own_made):
            if any([known in came for known in self.own_made[made][2]]):
                came[made] = True
        return list(came)

    def twin(self):
        """A book alike, that goes on by itself."""
        other = Book()
        other.own_made = {dot: self.own_made[dot] for dot in self.own_made}
        other.own_told = self.told()
        other.own_losses = self.own_losses
        other.own_swept = {dot: True for dot in self.own_swept}
        return other
