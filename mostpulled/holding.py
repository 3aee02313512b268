"""Hands: the least strain with one dial at a setting, and where a constant force holds a dial."""

from mostpulled.balance import are_fitting, pulls, surpluses
from mostpulled.beats import rest
from mostpulled.gains import check_allowed
from mostpulled.least import best_links, first_allowed
from mostpulled.links import range_of
from mostpulled.starts import some
from mostpulled.terms import ends_of


def least_at(board, dial, setting):
    """Return the least strain of the allowed standings with the dial at this setting, None if there are none."""
    first_allowed(board)
    pinned = board.also(("stop", dial, setting, setting))
    word, found = some(pinned)
    if word == "never":
        return None
    _, standing = rest(pinned, found)
    return pinned.strain(standing)


def forces(board, dial, setting):
    """Return (least, greatest) of the forces that hold the dial at this setting, None if it is not possible.

    None is the end where the setting next to it is not possible.
    """
    here = least_at(board, dial, setting)
    if here is None:
        return None
    below, above = least_at(board, dial, setting - 1), least_at(board, dial, setting + 1)
    return (None if below is None else here - below, None if above is None else above - here)


def held(board, dial, force):
    """Return (least, greatest) of the settings at which a hand holds the dial with this force, None if nowhere.

    None is an end that does not exist.
    """
    start = first_allowed(board)
    end = beyond(board) if force > 0 else -beyond(board)
    # A wish so far away pulls as the hand does, or, where the hand holds the dial nowhere, gets it there.
    pulled = board.also(("wish", dial, end, end, abs(force)))
    _, standing = rest(pulled, start)
    found = pulls(pulled, standing)
    if found[-1] != force:
        return None
    return range_of(best_links(board, found[:-1]), board.size, dial, board.size)


def are_held(board, standing, dial, force, thing):
    """Return whether thing, any value, is a list of pulls that fit the standing and balance with a hand at the dial."""
    check_allowed(board, standing)
    if not are_fitting(board, standing, thing):
        return False
    found = surpluses(board.terms(), thing, board.size)
    return found[:board.size] == [-force if node == dial else 0 for node in range(board.size)]


def beyond(board):
    """Return an integer beyond all settings at which the least strain with one dial at a setting changes its slope.

    Each of these is a sum of ends of different terms, so that the dial is linked to 0.
    """
    return 1 + sum([abs(end) for term in board.terms() for end in ends_of(term)])
