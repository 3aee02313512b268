"""The steps that gain most.

A group is a number here, its mask: bit k of it is 1 if dial k is in the group.
"""

from mostpulled.gains import check_allowed
from mostpulled.terms import argument, distance, has_force, nodes_of


def best_step(board, standing):
    """Return (way, group, gain) of the step that a beat does, None at rest."""
    check_allowed(board, standing)
    least, up, down = _best_masks(board, standing)
    if least == 0:
        return None
    masks = up if up else down
    fewest = masks[0]
    # The smallest group is a part of each other one, so it is what they have in common.
    for mask in masks:
        fewest = fewest & mask
    return (1 if up else -1, _group(fewest, board.size), -least)


def best_steps(board, standing):
    """Return the list of all best steps (way, group), up before down, groups in ascending order."""
    check_allowed(board, standing)
    least, up, down = _best_masks(board, standing)
    if least == 0:
        return []
    ups = sorted([_group(mask, board.size) for mask in up])
    downs = sorted([_group(mask, board.size) for mask in down])
    return [(1, group) for group in ups] + [(-1, group) for group in downs]


def _best_masks(board, standing):
    """Return (least, up, down): the least loss of a step or of none, and the masks with this loss, for each way."""
    rises = _rises(board, standing)
    up = _losses(rises, board.size)
    # Down with a group is up with all that is not in the group.
    down = _losses([list(column) for column in zip(*rises)], board.size)
    least = min(min(up), min(down))
    return (least, _masks_of(up, least), _masks_of(down, least))


def _masks_of(losses, least):
    """Return the masks with this loss."""
    return [mask for mask, loss in enumerate(losses) if loss == least]


def _rises(board, standing):
    """Return the table of how much the strain rises by one's move up beside another one that stays, by both nodes.

    Where a stop or bar forbids this, the rise is more than all forces together can gain.
    """
    terms = board.terms()
    never = 1 + sum([term[-1] for term in terms if has_force(term)])
    table = [[0] * (board.size + 1) for _ in range(board.size + 1)]
    for term in terms:
        dial, other = nodes_of(term, board.size)
        here = argument(term, standing)
        table[dial][other] += _rise(term, here, here + 1, never)
        table[other][dial] += _rise(term, here, here - 1, never)
    return table


def _rise(term, here, there, never):
    """Return how much the strain of one term rises from one argument to another one."""
    if has_force(term):
        return term[-1] * (distance(term, there) - distance(term, here))
    return 0 if distance(term, there) == 0 else never


def _losses(rises, size):
    """Return the list of the losses of moving up with each group, by its mask.

    Dial by dial, the list is doubled: a dial that joins a group adds all its own rises, but the rises between it
    and the dials of the group do not count any more.
    """
    losses = [0]
    for dial in range(size):
        saved = [0]
        for member in range(dial):
            between = rises[dial][member] + rises[member][dial]
            saved = saved + [part + between for part in saved]
        alone = sum(rises[dial])
        losses = losses + [loss + alone - part for loss, part in zip(losses, saved)]
    return losses


def _group(mask, size):
    """Return the group of a mask."""
    return [dial for dial in range(size) if mask >> dial & 1]
