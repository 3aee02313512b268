"""Best standings in order: the first one from a standing on, and the list of all of them.

The table of how far each node gets above each other one in best standings (a node behind all dials stands for 0) keeps
its limits without detours: settings of some dials that are within it always belong to a best standing.
"""

from mostpulled.errors import TooMany
from mostpulled.least import best_links, paper
from mostpulled.links import reach


def first_best(board, standing):
    """Return the least best standing that is not less than a standing, allowed or not; None without a least one."""
    gaps = _gaps(board)
    # The more settings at the front are those of the standing, the less is what follows it.
    for at in range(_shared(gaps, standing), -1, -1):
        if at == board.size:
            return standing
        least, greatest = _next_range(gaps, standing[:at])
        above = standing[at] + 1
        if greatest is None or greatest >= above:
            setting = above if least is None else max(least, above)
            return _lowest(gaps, standing[:at] + (setting,))
    return None


def all_best(board, *, limit=400):
    """Return the list of all best standings in ascending order; raise TooMany if there are more than limit."""
    gaps = _gaps(board)
    begun = [()]
    # Each tuple that is begun goes on to a best standing at least, so there are never more of them than of these.
    for _ in range(board.size):
        longer = []
        for front in begun:
            least, greatest = _next_range(gaps, front)
            if least is None or greatest is None or len(longer) + greatest - least >= limit:
                raise TooMany(limit)
            longer.extend([front + (setting,) for setting in range(least, greatest + 1)])
        begun = longer
    return begun


def _gaps(board):
    """Return the table of how far each node gets above each other one in best standings, by the lower one first."""
    links = best_links(board, paper(board))
    return [reach(links, board.size, node)[0] for node in range(board.size + 1)]


def _next_range(gaps, front):
    """Return (least, greatest) of the next setting in best standings with these settings at the front.

    None is no end.
    """
    dial, last = len(front), len(gaps) - 1
    fixed = list(enumerate(front)) + [(last, 0)]
    lows = [setting - gaps[dial][node] for node, setting in fixed if gaps[dial][node] is not None]
    highs = [setting + gaps[node][dial] for node, setting in fixed if gaps[node][dial] is not None]
    return (max(lows, default=None), min(highs, default=None))


def _shared(gaps, standing):
    """Return how many settings at the front of a standing some best standing shares with it at most."""
    for at, setting in enumerate(standing):
        least, greatest = _next_range(gaps, standing[:at])
        if (least is not None and setting < least) or (greatest is not None and setting > greatest):
            return at
    return len(standing)


def _lowest(gaps, front):
    """Return the least best standing with these settings at the front, None if there is no least one."""
    found = front
    while len(found) < len(gaps) - 1:
        least, _ = _next_range(gaps, found)
        if least is None:
            return None
        found = found + (least,)
    return found
