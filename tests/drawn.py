"""Weavings drawn by lot, always alike for the same seed."""

import random

from heldhints.cells import dots_of
from heldhints.errors import Away, Busy, HintError, NoAsk, NoAsker, NoHouse, NoLetter
from heldhints.ring import Ring
from heldhints.world import World

REFUSALS = (HintError, NoHouse, NoAsker, NoAsk, NoLetter, Busy, Away)
NAMES = ["a", "b", "c", "d", "e", "f"]
KEYS = ["k", "z", "ab"]
ASKERS = ["me", "you", "we"]
# How often each deed is drawn; what a test does not want it leaves out.
OFTEN = {
    "write": 6, "gone": 2, "read": 5, "leave": 2, "give": 25, "twice": 3, "lose": 3, "flow": 1, "away": 1, "back": 2,
    "lost": 1, "doubt": 3, "news": 3, "return": 3, "compare": 3, "come": 1, "go": 1, "tick": 2,
}


def drawn_ring(draw, least):
    many = draw.randint(least, len(NAMES))
    marks = {(draw.randrange(64), name) for name in NAMES[:many] for again in range(draw.randint(1, 3))}
    return Ring(sorted(marks))


def drawn_world(draw, **parts):
    """A world of drawn counts, of which some may be told."""
    copies = parts.setdefault("copies", draw.randint(1, 4))
    parts.setdefault("write", draw.randint(1, copies))
    parts.setdefault("read", draw.randint(1, copies))
    parts.setdefault("most", draw.choice([None, None, 0, 1, 2, 8]))
    parts.setdefault("keep", draw.choice([1, 3, 5]))
    parts.setdefault("mending", draw.random() < 0.8)
    return World(drawn_ring(draw, copies), **parts)


def drawn_deed(draw, world, but=()):
    """A deed that the world may refuse, none of those words that are left out."""
    words = [word for word in OFTEN if word not in but]
    word = draw.choices(words, [OFTEN[one] for one in words])[0]
    houses = world.houses()
    if word in ("write", "gone", "read"):
        deed = (word, draw.choice(ASKERS), draw.choice(houses), draw.choice(KEYS))
        return deed + (draw.randint(-9, 9),) if word == "write" else deed
    if word == "leave":
        return (word, draw.choice(ASKERS))
    if word in ("give", "twice", "lose"):
        letters = world.letters()
        return (word, draw.choice(letters)[0] if letters else 0)
    if word == "flow":
        return (word,)
    if word in ("doubt", "news", "compare"):
        return (word, draw.choice(houses), draw.choice(houses))
    if word == "come":
        return (word, draw.choice(NAMES), tuple(draw.sample(range(64), draw.randint(1, 3))))
    if word == "tick":
        return (word, draw.randint(1, 4))
    return (word, draw.choice(houses))


def drawn_steps(draw, world, many, but=()):
    """Does so many drawn deeds that are not refused, and yields each as (deed, what came of it)."""
    done = 0
    while done < many:
        deed = drawn_deed(draw, world, but)
        if deed[0] in ("come", "go") and draw.random() < 0.7:
            yield from calm_steps(world)
        try:
            told = world.do(deed)
        except REFUSALS:
            continue
        done += 1
        yield deed, told


def calm_steps(world):
    """Does what makes all houses be here, no letter under way and no asker wait; yields each deed likewise."""
    for name in world.houses():
        if world.is_away(name):
            yield ("back", name), world.do(("back", name))
    yield ("flow",), world.do(("flow",))
    for name, ask in world.asked():
        yield ("leave", name), world.do(("leave", name))


def make_calm(world):
    """Does these steps."""
    for deed, told in calm_steps(world):
        pass


def draws(many, seed=0):
    """So many lots, each by itself."""
    return [random.Random(f"{seed} {number}") for number in range(many)]


def has_of(world, name, word, dots):
    """Whether a house has one of these dots in its cell or a note of a key."""
    house = world.one_house(name)
    cells = [house.cell(word)] + [house.note(one, home) for one, home in house.notes() if one == word]
    return any(dot in dots for cell in cells for dot in dots_of(cell))
