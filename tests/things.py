"""Things of every sort that the tests pass where any value is accepted."""


class Plain:
    """An object of no kind that the package knows."""


class Stubborn:
    """An object that must not be compared, measured, iterated or written."""

    def __eq__(self, other):
        raise RuntimeError("compared")

    def __lt__(self, other):
        raise RuntimeError("ordered")

    def __len__(self):
        raise RuntimeError("measured")

    def __iter__(self):
        raise RuntimeError("iterated")

    def __bool__(self):
        raise RuntimeError("tested")

    def __str__(self):
        raise RuntimeError("written")

    def __repr__(self):
        return "Stubborn()"

    __hash__ = None


def nested(depth, outer, inner):
    """Return inner in as many containers, made by outer from a list."""
    thing = inner
    for _ in range(depth):
        thing = outer([thing])
    return thing


def odd_things():
    """Return new things that are no integer, name, term, standing, group or step of any board."""
    return [
        None, True, False, "", "Wish", "0", "1", "a b", "a\n", "\na", "~", "wish,0,0,5,3", "x" * 10000,
        b"", b"a", b"wish", (), [], {}, set(), frozenset({"a"}), {"wish"}, {"a": 1}, {0: ["x"]}, {(): ()},
        range(3), Plain(), Plain, Stubborn(), len, int, Ellipsis, NotImplemented, ValueError("a"),
        [None], (None,), ([],), [[]], [()], ((),), ["a"], ("a",), [True], (True,), (False, False),
        nested(6, list, None), nested(6, tuple, None), nested(5, list, {"a": ()}), nested(6, tuple, "wish"),
        ["wish", 0, 0, 5, 3], {"wish": 0}, ("wish", {}), ({}, 0, 0, 5, 3), ([], 0, 0, 5), (["wish"], 0, 0, 5, 3),
        (("wish",), 0, 0, 5, 3), (None,) * 4, ((),) * 5, ([],) * 6, (Stubborn(),) * 4, (Stubborn(),) * 5,
        (Stubborn(),) * 2, [Stubborn()] * 2, ("wish",) * 5, ("tie",) * 6, [None] * 9999, (None,) * 9999,
        {k: None for k in range(4999)}, ("wish", Stubborn(), 0, 5, 3), ("stop", 0, Stubborn(), 5), (1, Stubborn()),
        (Stubborn(), [0]), (1, [Stubborn()]), ("bar", 0, Stubborn(), 0, 5),
    ]

