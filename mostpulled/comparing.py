"""Comparing boards without stops and bars: where their gains change, and a step that shows that two are unlike."""

from mostpulled.errors import HasStop
from mostpulled.gains import gain, stepped
from mostpulled.terms import ends_of, has_force, has_other


def kinks(board):
    """Return the list of (dial, other, place, weight) in ascending order, -1 as other for the wishes of a dial."""
    check_free(board)
    weights = {}
    for term in board.terms():
        for place in _places(term):
            weights[place] = weights.get(place, 0) + term[-1]
    return sorted([place + (weights[place],) for place in weights])


def unlike(one, other):
    """Return (standing, way, group) of a step whose gains on two boards differ, None if they always gain alike."""
    first, second = kinks(one), kinks(other)
    if first == second:
        return None
    both = first + second
    kink = [row for row in both if row not in first or row not in second][0]
    far = 1 + 2 * max([abs(place) for _, _, place, _ in both])
    standing, group = _at_kink(kink, one.size, far), [kink[0]]
    # A step to the kink gains more than the next one by the weight of the kink, so one of the two gains differs.
    if gain(one, standing, 1, group) == gain(other, standing, 1, group):
        standing = stepped(standing, -1, group, 1)
    return (standing, 1, group)


def check_free(board):
    """Raise HasStop with the index of the first stop or bar, if the board has one."""
    for at, term in enumerate(board.terms()):
        if not has_force(term):
            raise HasStop(at)


def _places(term):
    """Return the list of (dial, other, place) of both ends of a term, the lesser dial first, -1 without other."""
    if not has_other(term):
        return [(term[1], -1, end) for end in ends_of(term)]
    dial, other = term[1], term[2]
    if dial < other:
        return [(dial, other, end) for end in ends_of(term)]
    return [(other, dial, -end) for end in ends_of(term)]


def _at_kink(kink, size, far):
    """Return a standing at which this kink is the only place at which the dial is, alone or to an other one."""
    dial, other, place, _ = kink
    if other == -1:
        settings = [far] * size
        settings[dial] = place
    else:
        settings = [0] * size
        settings[other] = far
        settings[dial] = far + place
    return tuple(settings)
