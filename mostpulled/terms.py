"""Single terms: their parts, arguments, distances and pulls, and terms made of them."""


def has_other(term):
    """Return whether the term has an other dial."""
    return term[0] in ("tie", "bar")


def has_force(term):
    """Return whether the term has a force."""
    return term[0] in ("wish", "tie")


def dials_of(term):
    """Return the tuple of the dial of the term and, if it has one, its other dial."""
    return term[1:_low_at(term)]


def ends_of(term):
    """Return the tuple (low, high) of the ends of the term."""
    at = _low_at(term)
    return term[at:at + 2]


def nodes_of(term, size):
    """Return (dial, other) of the term, with the size in the place of a dial that it does not have.

    So no dial counts as one more node, behind all dials, whose setting is always 0.
    """
    return (term[1], term[2] if has_other(term) else size)


def argument(term, standing):
    """Return the argument of the term at the standing."""
    if has_other(term):
        return standing[term[1]] - standing[term[2]]
    return standing[term[1]]


def distance(term, argument):
    """Return how far the argument is from the range of the term."""
    low, high = ends_of(term)
    return max(low - argument, 0, argument - high)


def fitting(term, argument):
    """Return (least, greatest) of the pulls that fit the argument, None for an end that does not exist."""
    low, high = ends_of(term)
    down, up = _strongest(term)
    if argument < low:
        return (up, up)
    if argument > high:
        return (down, down)
    return (down if argument == high else 0, up if argument == low else 0)


def fitted(term, pull):
    """Return (least, greatest) of the arguments that a pull fits, None for an end that does not exist.

    The pull of a wish or tie is at most its force, up or down.
    """
    low, high = ends_of(term)
    if pull == 0:
        return (low, high)
    end = low if pull > 0 else high
    if not has_force(term) or abs(pull) < term[-1]:
        return (end, end)
    return (None, end) if pull > 0 else (end, None)


def mirrored(term):
    """Return the term with its range mirrored at 0."""
    low, high = ends_of(term)
    return _with_ends(term, -high, -low)


def moved(term, by):
    """Return the term with its range moved by an integer."""
    low, high = ends_of(term)
    return _with_ends(term, low + by, high + by)


def _strongest(term):
    """Return the tuple of the least and the greatest pull at any argument, None where there is none."""
    if has_force(term):
        return (-term[-1], term[-1])
    return (None, None)


def _with_ends(term, low, high):
    """Return the term with other ends."""
    at = _low_at(term)
    return term[:at] + (low, high) + term[at + 2:]


def _low_at(term):
    """Return the place of low in the tuple of the term; high stands behind it."""
    return 3 if has_other(term) else 2
