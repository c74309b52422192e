"""Things of many kinds, for what must be answered or refused of anything."""


class Sour:
    """Can be asked nothing: a test of its kind must go ahead of all else."""

    def refuse(self, *told):
        raise AssertionError("a thing was asked that should not be")

    __eq__ = __ne__ = __lt__ = __le__ = __gt__ = __ge__ = refuse
    __hash__ = __len__ = __bool__ = __iter__ = __getitem__ = __contains__ = refuse
    __int__ = __index__ = __str__ = __repr__ = refuse


def odd_things():
    """New ones each time; none is a dot, known, a worth, a version or a cell."""
    plain = [
        None, True, False, 1.5, -0.0, float("nan"), float("inf"), 2j,
        "", "a", "gone", "()", "(1, 'a', 1)", b"", b"gone",
        [], [()], [1, "a", 1], {}, {"gone": 1}, set(), frozenset(),
        range(3), iter(()), (x for x in ()), object(), int, len, lambda: (), Sour(),
        bytearray(b"a"), ValueError(), NotImplemented, ...,
    ]
    within = [(thing,) for thing in plain] + [(thing, thing) for thing in plain]
    return plain + within + [(thing, thing, thing) for thing in plain]


def no_words():
    """New ones each time; none is a word, and so none is a key or the name of a house."""
    texts = ["", "A", "aB", "abcdefg", "a1", "1", "a b", " a", "a\n", "\n", "a-", "_", "`", "{", "\xe9", b"a"]
    return [thing for thing in odd_things() if not isinstance(thing, str)] + texts + [0, 1, -1, 10 ** 29]


def no_wholes():
    """New ones each time; none is a whole number."""
    return [thing for thing in odd_things() if not isinstance(thing, (float, complex))] + ["0", "1", b"1", [1], (1,)]
