"""What a step gains, and what all functions with a board and a standing need."""

from mostpulled.errors import NotAllowed


def check_allowed(board, standing):
    """Raise NotAllowed with the index of the first stop or bar that the standing leaves, if it leaves one."""
    at = board.left(standing)
    if at is not None:
        raise NotAllowed(at)


def stepped(standing, way, group, times):
    """Return the standing after so many steps with this way and group, allowed or not."""
    by = way * times
    return tuple([setting + by if dial in group else setting for dial, setting in enumerate(standing)])


def gain(board, standing, way, group):
    """Return the gain of a step at an allowed standing, None if the step is not possible."""
    check_allowed(board, standing)
    after = board.strain(stepped(standing, way, group, 1))
    if after is None:
        return None
    return board.strain(standing) - after
