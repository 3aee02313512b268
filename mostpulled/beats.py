"""Beats: one after another, in runs of one group, and to rest."""

from mostpulled.gains import check_allowed, stepped
from mostpulled.steps import best_step
from mostpulled.terms import argument, ends_of, nodes_of


def beat(board, standing):
    """Return the standing after one beat, None at rest."""
    step = best_step(board, standing)
    if step is None:
        return None
    way, group, _ = step
    return stepped(standing, way, group, 1)


def runs(board, standing):
    """Generate (way, group, times) for the beats to rest, as many with one way and group as there are in a row."""
    way, group, times = 0, [], 0
    for next_way, next_group, _, more in _stretches(board, standing):
        if (next_way, next_group) == (way, group):
            times += more
        else:
            if times > 0:
                yield (way, list(group), times)
            way, group, times = next_way, next_group, more
    if times > 0:
        yield (way, list(group), times)


def run(board, standing, beats):
    """Return (done, standing) after so many beats, or after all to rest if there are fewer."""
    check_allowed(board, standing)
    done, place = 0, standing
    for way, group, times in runs(board, standing):
        more = min(times, beats - done)
        done, place = done + more, stepped(place, way, group, more)
        if done == beats:
            break
    return (done, place)


def rest(board, standing):
    """Return (beats, standing): the number of all beats to rest, and the standing there."""
    check_allowed(board, standing)
    done, place = 0, standing
    for way, group, times in runs(board, standing):
        done, place = done + times, stepped(place, way, group, times)
    return (done, place)


def trace(board, standing, limit):
    """Return the list of the gains of the first beats, as many as the limit or as there are."""
    check_allowed(board, standing)
    gains = []
    for _, _, gained, times in _stretches(board, standing):
        gains.extend([gained] * min(times, limit - len(gains)))
        if len(gains) == limit:
            break
    return gains


def _stretches(board, standing):
    """Generate (way, group, gain, times) for beats in a row that find every term in the same state.

    What a term does to a beat depends on its state only, so these beats do the same step with the same gain.
    """
    place = standing
    step = best_step(board, place)
    while step is not None:
        way, group, gained = step
        times = _times(board, place, way, group)
        yield (way, list(group), gained, times)
        place = stepped(place, way, group, times)
        step = best_step(board, place)


def _times(board, standing, way, group):
    """Return after how many steps a term is first in another state, at a step that gains."""
    times = []
    for term in board.terms():
        dial, other = nodes_of(term, board.size)
        if (dial in group) != (other in group):
            ahead = way if dial in group else -way
            times.extend(_changes(term, argument(term, standing), ahead))
    return min(times)


def _changes(term, here, way):
    """Return after how many moves of the argument, all up or all down, the term gets into other states.

    The states are below the range, at its low end, strictly inside, at its high end, and above.
    """
    low, high = ends_of(term)
    if way == 1:
        return [place - here for place in (low, low + 1, high, high + 1) if place > here]
    return [here - place for place in (high, high - 1, low, low - 1) if place < here]
