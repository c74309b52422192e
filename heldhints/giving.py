"""Letters that are given, and what comes of each."""

from heldhints.asking import hear_kept, hear_said


def give(world, letter):
    """A letter comes to its house; it is lost where that one is away."""
    word, ask, own, other, key, cell, home = letter
    if other in world.own_absent:
        return
    house = world.own_houses[other]
    fresh = world.let_go(cell)
    if word == "keep":
        house.keep(key, fresh, place=home)
        world.send("kept", ask, other, own, key, (), None)
    elif word == "kept":
        hear_kept(world, ask, own)
    elif word == "tell":
        world.send("said", ask, other, own, key, house.all_of(key), None)
    elif word == "said":
        hear_said(world, ask, own, fresh)
    elif word == "mend":
        house.keep(key, fresh, place=home)
    elif word == "bring":
        house.keep(key, fresh)
        # As it was brought: the one that brings it knows its note by these dots.
        world.send("took", None, other, own, key, cell, None)
    else:
        house.given_back(key, own, [version[0] for version in cell])


def give_numbered(world, number, stays):
    """The letter of a number is given, and is no more, unless it stays."""
    letter = world.own_post.letter(number)
    if not stays:
        world.own_post.drop(number)
    give(world, letter)


def flow(world):
    """All letters are given, those too that come of it, by their numbers."""
    letters = world.own_post.under_way()
    while letters:
        for number, letter in letters:
            give_numbered(world, number, False)
        # What came of these has greater numbers than all of them.
        letters = world.own_post.under_way()
