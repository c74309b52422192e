"""The refusals. Each keeps the values it is made of as its fields."""


class HintError(ValueError):
    """What was handed in has not the form that is asked."""


class NoVersion(HintError):
    """No version comes of this."""

    def __init__(self):
        HintError.__init__(self)


class NoCell(HintError):
    """This is no cell."""

    def __init__(self):
        HintError.__init__(self)


class NoRing(HintError):
    """No ring comes of this; number is that of the first wrong thing, or None."""

    def __init__(self, number):
        HintError.__init__(self, "no ring")
        self.number = number


class NoKey(HintError):
    """This is no key."""

    def __init__(self):
        HintError.__init__(self)


class NoShape(HintError):
    """No shape comes of this; what is the name of the first wrong part."""

    def __init__(self, what):
        HintError.__init__(self, "no shape")
        self.what = what


class NoKnown(HintError):
    """This is nothing that can be known."""

    def __init__(self):
        HintError.__init__(self)


class NoDeed(HintError):
    """This is no deed; number is its place in a weaving, or None."""

    def __init__(self, number):
        HintError.__init__(self, "no deed")
        self.number = number


class NoNews(HintError):
    """This is no news; house is the one whose entry is wrong, or None."""

    def __init__(self, house):
        HintError.__init__(self, "no news")
        self.house = house


class NoText(HintError):
    """This text cannot be read; row is the number of the first wrong row, or None."""

    def __init__(self, row):
        HintError.__init__(self, "no such text")
        self.row = row


class NoRow(HintError):
    """This is no row that a desk takes."""

    def __init__(self):
        HintError.__init__(self)


class NoSteps(HintError):
    """This is no number of steps."""

    def __init__(self):
        HintError.__init__(self)


class NoHouse(KeyError):
    """There is no such house, or it may not be told of here."""

    def __init__(self, house):
        KeyError.__init__(self, "no such house")
        self.house = house


class NoAsker(KeyError):
    """There is no such asker."""

    def __init__(self, asker):
        KeyError.__init__(self, "no such asker")
        self.asker = asker


class NoAsk(LookupError):
    """No such ask is under way."""

    def __init__(self, number):
        LookupError.__init__(self, "no such ask")
        self.number = number


class NoLetter(LookupError):
    """No letter of this number is under way."""

    def __init__(self, number):
        LookupError.__init__(self, "no such letter")
        self.number = number


class Busy(RuntimeError):
    """This cannot be done now; what is in its way."""

    def __init__(self, what):
        RuntimeError.__init__(self, "busy")
        self.what = what


class Away(RuntimeError):
    """This house is away."""

    def __init__(self, house):
        RuntimeError.__init__(self, "away")
        self.house = house


class TooMany(OverflowError):
    """There are more than so many."""

    def __init__(self, many):
        OverflowError.__init__(self, "too many")
        self.many = many


class NoWorld(LookupError):
    """The desk has no world yet."""

    def __init__(self):
        LookupError.__init__(self)
