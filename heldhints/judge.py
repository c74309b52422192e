"""What is judged of a world: which dots are there, which told writings are missing, and what has come back."""

from heldhints.cells import dots_of


def dots_there(world, word):
    """The dots of a key that are in some house's cell, joined with its notes, sorted."""
    cells = [world.one_house(name).all_of(word) for name in world.houses()]
    return sorted({dot for cell in cells for dot in dots_of(cell)})


def missing(world):
    """The dots of told writings of which nothing is there or was let go, though fewer houses than must were lost."""
    book = world.book()
    need = world.shape().counts()[1]
    told = [(dot, word) for dot, word, houses, lost in book.told() if book.losses() - lost < need]
    there = {word: dots_there(world, word) + book.swept() for word in [word for dot, word in told]}
    return sorted([dot for dot, word in told if not any([came in there[word] for came in book.came_of(dot)])])


def risen(world, word):
    """The dots of a key that are there and of which a mark that was let go, another one, came, sorted."""
    book = world.book()
    swept = book.swept()
    return [dot for dot in dots_there(world, word) if any([came in swept for came in book.came_of(dot)[1:]])]
