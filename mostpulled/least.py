"""The least strain, and all best standings together.

Balanced pulls that fit one best standing fit all of them and no other one. So the best standings are those whose
arguments are between limits that such pulls set, and the shortest ways along these limits tell their ranges.
"""

from mostpulled.balance import is_balanced, pulls, worth
from mostpulled.beats import rest
from mostpulled.errors import NoneAllowed
from mostpulled.kinds import is_integer
from mostpulled.links import links_of, range_of, reach, trail
from mostpulled.starts import some
from mostpulled.steps import best_step
from mostpulled.terms import fitted


def strain(board):
    """Return the least strain."""
    return board.strain(_best(board))


def is_best(board, standing):
    """Return whether a standing, allowed or not, is a best one."""
    first_allowed(board)
    return board.left(standing) is None and best_step(board, standing) is None


def paper(board):
    """Return balanced pulls whose worth is the least strain."""
    return pulls(board, _best(board))


def dial_range(board, dial):
    """Return (least, greatest) of the settings of the dial in best standings, None for an end that does not exist."""
    return range_of(best_links(board, paper(board)), board.size, dial, board.size)


def gap_range(board, dial, other):
    """Return (least, greatest) of the setting of the dial less that of the other one in best standings."""
    return range_of(best_links(board, paper(board)), board.size, dial, other)


def bounds(board):
    """Return (low, high): the standings of the least and of the greatest settings in best standings, or None."""
    size = board.size
    links = best_links(board, paper(board))
    ranges = [range_of(links, size, dial, size) for dial in range(size)]
    return (_standing([least for least, _ in ranges]), _standing([greatest for _, greatest in ranges]))


def chain(board, dial, other):
    """Return (greatest, pulls, links) that show the greatest value of dial_range or gap_range, None without one."""
    held = paper(board)
    start = board.size if other is None else other
    far, came = reach(best_links(board, held), board.size, start)
    if far[dial] is None:
        return None
    return (far[dial], held, [(index, way) for _, _, _, index, way in trail(came, dial)])


def is_chain(board, dial, other, thing):
    """Return whether thing, any value, is a tuple as chain returns it."""
    best = _best(board)
    start = board.size if other is None else other
    far, _ = reach(best_links(board, pulls(board, best)), board.size, start)
    if not isinstance(thing, tuple) or len(thing) != 3:
        return False
    greatest, held, links = thing
    if not is_integer(greatest) or greatest != far[dial]:
        return False
    if not is_balanced(board, held) or worth(board, held) != board.strain(best):
        return False
    return _length(best_links(board, held), links, start, dial) == greatest


def first_allowed(board):
    """Return an allowed standing; raise NoneAllowed if there is none."""
    word, found = some(board)
    if word == "never":
        raise NoneAllowed()
    return found


def best_links(board, held):
    """Return the links that all best standings keep, and no other one, by balanced pulls of the worth of the strain."""
    terms = board.terms()
    return links_of(terms, [fitted(term, pull) for term, pull in zip(terms, held)], board.size)


def _best(board):
    """Return a best standing."""
    _, standing = rest(board, first_allowed(board))
    return standing


def _standing(settings):
    """Return the standing of these settings, None if one of them is None."""
    return None if any([setting is None for setting in settings]) else tuple(settings)


def _length(best_links, thing, start, end):
    """Return the sum of the bounds of a list of links from one node to another one, None if thing is none."""
    if not isinstance(thing, list) or not all([_is_link(link) for link in thing]):
        return None
    table = {(index, way): (first, second, bound) for first, second, bound, index, way in best_links}
    node, total = start, 0
    for link in thing:
        if link not in table or table[link][0] != node:
            return None
        _, node, bound = table[link]
        total += bound
    return total if node == end else None


def _is_link(thing):
    """Return whether thing is a tuple of two integers."""
    return isinstance(thing, tuple) and len(thing) == 2 and all([is_integer(part) for part in thing])
