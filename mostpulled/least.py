"""The least strain, and all best standings together.

Balanced pulls that fit one best standing fit all of them and no other one. So the best standings are those whose
arguments are between limits that such pulls set, and the shortest ways along these limits tell their ranges.
"""

from mostpulled.balance import is_balanced, pulls, worth
from mostpulled.beats import rest
from mostpulled.errors import NoneAllowed
from mostpulled.kinds import is_integer
from mostpulled.links import links_of, spread, trail
from mostpulled.starts import some
from mostpulled.steps import best_step
from mostpulled.terms import fitted


def strain(board):
    """Return the least strain."""
    return board.strain(_best(board))


def is_best(board, standing):
    """Return whether a standing, allowed or not, is a best one."""
    _start(board)
    return board.left(standing) is None and best_step(board, standing) is None


def paper(board):
    """Return balanced pulls whose worth is the least strain."""
    return pulls(board, _best(board))


def dial_range(board, dial):
    """Return (least, greatest) of the settings of the dial in best standings, None for an end that does not exist."""
    return _range(_best_links(board, paper(board)), board.size, dial, board.size)


def gap_range(board, dial, other):
    """Return (least, greatest) of the setting of the dial less that of the other one in best standings."""
    return _range(_best_links(board, paper(board)), board.size, dial, other)


def bounds(board):
    """Return (low, high): the standings of the least and of the greatest settings in best standings, or None."""
    size = board.size
    links = _best_links(board, paper(board))
    ranges = [_range(links, size, dial, size) for dial in range(size)]
    return (_standing([least for least, _ in ranges]), _standing([greatest for _, greatest in ranges]))


def chain(board, dial, other):
    """Return (greatest, pulls, links) that show the greatest value of dial_range or gap_range, None without one."""
    held = paper(board)
    start = board.size if other is None else other
    far, came = _reach(_best_links(board, held), board.size, start)
    if far[dial] is None:
        return None
    return (far[dial], held, [(index, way) for _, _, _, index, way in trail(came, dial)])


def is_chain(board, dial, other, thing):
    """Return whether thing, any value, is a tuple as chain returns it."""
    best = _best(board)
    start = board.size if other is None else other
    far, _ = _reach(_best_links(board, pulls(board, best)), board.size, start)
    if not isinstance(thing, tuple) or len(thing) != 3:
        return False
    greatest, held, links = thing
    if not is_integer(greatest) or greatest != far[dial]:
        return False
    if not is_balanced(board, held) or worth(board, held) != board.strain(best):
        return False
    return _length(_best_links(board, held), links, start, dial) == greatest


def _start(board):
    """Return an allowed standing; raise NoneAllowed if there is none."""
    word, found = some(board)
    if word == "never":
        raise NoneAllowed()
    return found


def _best(board):
    """Return a best standing."""
    _, standing = rest(board, _start(board))
    return standing


def _best_links(board, held):
    """Return the links that all best standings keep, and no other one, by balanced pulls of the worth of the strain."""
    terms = board.terms()
    return links_of(terms, [fitted(term, pull) for term, pull in zip(terms, held)], board.size)


def _reach(links, size, start):
    """Return (far, came): how far each node gets above the start at most, None without end, and the links there."""
    far, came, _ = spread(links, [0 if node == start else None for node in range(size + 1)])
    return (far, came)


def _range(links, size, node, other):
    """Return (least, greatest) of the setting of a node less that of another one; None without end."""
    above, _ = _reach(links, size, other)
    below, _ = _reach(links, size, node)
    return (None if below[other] is None else -below[other], above[node])


def _standing(settings):
    """Return the standing of these settings, None if one of them is None."""
    return None if any([setting is None for setting in settings]) else tuple(settings)


def _length(best_links, thing, start, end):
    """Return the sum of the bounds of a list of links from one node to another one, None if thing is none."""
    if not isinstance(thing, list) or not all([_is_link(link) for link in thing]):
        return None
    table = {(index, way): (first, second, bound) for first, second, bound, index, way in best_links}
    node, total = start, 0
    for link in thing:
        if link not in table or table[link][0] != node:
            return None
        _, node, bound = table[link]
        total += bound
    return total if node == end else None


def _is_link(thing):
    """Return whether thing is a tuple of two integers."""
    return isinstance(thing, tuple) and len(thing) == 2 and all([is_integer(part) for part in thing])
