"""Pulls that balance at every dial.

A pull moves from the other node of its term to its dial; pulls balance where what arrives is what leaves.
"""

from mostpulled.gains import check_allowed
from mostpulled.kinds import is_integer
from mostpulled.links import trail
from mostpulled.terms import argument, ends_of, fitting, has_force, nodes_of


def is_balanced(board, thing):
    """Return whether thing, any value, is a list of balanced pulls of the board."""
    terms = board.terms()
    if not _are_integers(thing, len(terms)):
        return False
    if any([has_force(term) and abs(pull) > term[-1] for term, pull in zip(terms, thing)]):
        return False
    return all([surplus == 0 for surplus in surpluses(terms, thing, board.size)])


def worth(board, pulls):
    """Return the worth of pulls of the board."""
    total = 0
    for term, pull in zip(board.terms(), pulls):
        low, high = ends_of(term)
        total += pull * (low if pull > 0 else high)
    return total


def pulls(board, standing):
    """Return balanced pulls that fit all arguments at the standing, None if it is not at rest."""
    check_allowed(board, standing)
    terms = board.terms()
    ranges = [fitting(term, argument(term, standing)) for term in terms]
    found = [_nearest(least, greatest) for least, greatest in ranges]
    over = surpluses(terms, found, board.size)
    while max(over) > 0:
        path = _path(_moves(terms, found, ranges, board.size), over)
        if path is None:
            return None
        found = _pushed(found, path, over)
        over = surpluses(terms, found, board.size)
    return found


def are_pulls(board, standing, thing):
    """Return whether thing, any value, is a list of balanced pulls that fit all arguments at the standing."""
    check_allowed(board, standing)
    return is_balanced(board, thing) and are_fitting(board, standing, thing)


def are_fitting(board, standing, thing):
    """Return whether thing, any value, is a list of pulls, balanced or not, that fit all arguments at the standing."""
    terms = board.terms()
    if not _are_integers(thing, len(terms)):
        return False
    return all([_fits(pull, fitting(term, argument(term, standing))) for term, pull in zip(terms, thing)])


def surpluses(terms, pulls, size):
    """Return the list of how much more arrives at each node than leaves it."""
    found = [0] * (size + 1)
    for term, pull in zip(terms, pulls):
        dial, other = nodes_of(term, size)
        found[dial] += pull
        found[other] -= pull
    return found


def _are_integers(thing, many):
    """Return whether thing is a list of so many integers."""
    return isinstance(thing, list) and len(thing) == many and all([is_integer(pull) for pull in thing])


def _fits(pull, ends):
    """Return whether a pull is from the one end to the other; None is no end."""
    least, greatest = ends
    return (least is None or least <= pull) and (greatest is None or pull <= greatest)


def _nearest(least, greatest):
    """Return the integer nearest to 0 from least to greatest; None is no end."""
    if least is not None and least > 0:
        return least
    if greatest is not None and greatest < 0:
        return greatest
    return 0


def _moves(terms, pulls, ranges, size):
    """Return the links (start, end, index, by, room) along which changes by 1 or -1 of pulls take a surplus.

    The room is how often the pull may be changed so within its range, None without end.
    """
    moves = []
    for index, (term, pull, (least, greatest)) in enumerate(zip(terms, pulls, ranges)):
        dial, other = nodes_of(term, size)
        if greatest is None or pull < greatest:
            moves.append((other, dial, index, 1, None if greatest is None else greatest - pull))
        if least is None or pull > least:
            moves.append((dial, other, index, -1, None if least is None else pull - least))
    return moves


def _path(moves, over):
    """Return a shortest list of links from a node with a surplus to one with a lack, None if there is none."""
    came = {node: None for node, surplus in enumerate(over) if surplus > 0}
    queue = list(came)
    while queue:
        node = queue.pop(0)
        if over[node] < 0:
            return trail(came, node)
        for move in moves:
            if move[0] == node and move[1] not in came:
                came[move[1]] = move
                queue.append(move[1])
    return None


def _pushed(pulls, path, over):
    """Return the pulls after as much surplus as possible went along the path."""
    amount = min(over[path[0][0]], -over[path[-1][1]])
    amount = min([amount] + [room for _, _, _, _, room in path if room is not None])
    pushed = list(pulls)
    for _, _, index, by, _ in path:
        pushed[index] += by * amount
    return pushed
