"""Where to start: some allowed standing, or pulls that show that there is none."""

from mostpulled.balance import is_balanced, worth
from mostpulled.links import circle, links_of, spread
from mostpulled.terms import ends_of, has_force


def some(board):
    """Return ("standing", standing) with an allowed one, or ("never", pulls) that show that there is none."""
    size, terms = board.size, board.terms()
    limits = [(None, None) if has_force(term) else ends_of(term) for term in terms]
    far, came, last = spread(links_of(terms, limits, size), [0] * (size + 1))
    if last is not None:
        return ("never", _against(circle(came, last), len(terms)))
    return ("standing", tuple([setting - far[size] for setting in far[:size]]))


def is_never(board, thing):
    """Return whether thing, any value, is a list of pulls that show that no standing is allowed."""
    if not is_balanced(board, thing):
        return False
    if any([has_force(term) and pull != 0 for term, pull in zip(board.terms(), thing)]):
        return False
    return worth(board, thing) > 0


def _against(links, many):
    """Return so many pulls, 0 but for those against each link of a circle."""
    pulls = [0] * many
    for _, _, _, index, way in links:
        pulls[index] -= way
    return pulls
