"""What a board without stops and bars is from one dial alone: where its least strain changes its slope."""

from mostpulled.comparing import check_free
from mostpulled.errors import TooMany
from mostpulled.holding import beyond, forces, held


def corners(board, dial):
    """Return the list of (place, weight), ascending, of the settings at which the least strain changes its slope."""
    check_free(board)
    if board.size > 4:
        raise TooMany(4)
    found = []
    # Below all corners, one force holds the dial everywhere up to the first one; so does a next one behind each.
    _, slope = forces(board, dial, -beyond(board))
    _, place = held(board, dial, slope)
    while place is not None:
        below, above = forces(board, dial, place)
        found.append((place, above - below))
        _, place = held(board, dial, above)
    return found
