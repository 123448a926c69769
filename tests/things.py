"""Things of many kinds, for what is promised of anything, and places of SITEs to put them."""


def deep(kind):
    """A tuple or a list, nested so deep that no recursion gets through it."""
    thing = kind()
    for _ in range(100_000):
        thing = kind((thing,))
    return thing


class Unlike:
    """An object that can be neither compared, nor hashed, nor measured, nor shown."""

    def _refuse(self, *told):
        raise AssertionError("a thing of an unknown kind was asked something")

    __eq__ = __ne__ = __lt__ = __le__ = __gt__ = __ge__ = _refuse
    __hash__ = __len__ = __iter__ = __getitem__ = __contains__ = __bool__ = _refuse
    __str__ = __repr__ = __index__ = __int__ = _refuse


def integers():
    """Integers of any size."""
    return [0, 1, 2, 5, 6, -1, -5, 10 ** 5000, -(10 ** 5000), 2 ** 31, 2 ** 63, 2 ** 64]


def odd_things():
    """Things that are never wanted: no integers, booleans or None, no LABELs, HOSTs, PATHs and so on."""
    looped = []
    looped.append(looped)
    return [
        "", " ", "-", "A", "\n", "a b", "x" * 20_000,
        b"", b"a", b"\x00",
        [], [0], ["a", "b"], looped, deep(list),
        {}, {0: 1}, {"a": "b"}, {"a": ()}, set(), {"a", "b"}, frozenset(), frozenset(("a",)),
        range(2), 1j, len, int, object(), Unlike(), Ellipsis, NotImplemented, ValueError("x"), lambda: None,
        (0,), (None,), (True, False), ("",), ("A", "b"), ((), ()), ((), (), True), ((), (), (), (), ()),
        ("a", None, 3, (), b""), (Unlike(),), (Unlike(),) * 2, (Unlike(),) * 3, (Unlike(),) * 5,
        deep(tuple), (deep(tuple), deep(tuple)), (deep(list), ()), (10 ** 5000,), (10 ** 5000, 10 ** 5000),
        (None,) * 2, (None,) * 3, (None,) * 5, ("a",) * 20_000,
    ]


def replaced(row, at, thing):
    """The tuple with another thing in the place of its item with the number at."""
    return row[:at] + (thing,) + row[at + 1:]


def refused(test, error, call, *told):
    """The error of exactly this class that a call raises."""
    with test.assertRaises(error) as caught:
        call(*told)
    test.assertIs(caught.exception.__class__, error)
    return caught.exception
