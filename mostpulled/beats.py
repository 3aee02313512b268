"""Beats: one after another, in runs of one group, and to rest."""

from mostpulled.gains import stepped
from mostpulled.steps import best_step
from mostpulled.terms import argument, ends_of, nodes_of


def beat(board, standing):
    """Return the standing after one beat, None at rest."""
    step = best_step(board, standing)
    if step is None:
        return None
    way, group, _ = step
    return stepped(standing, way, group, 1)


def runs(board, standing):
    """Generate (way, group, times) for the beats to rest, as many with one way and group as there are in a row."""
    way, group, times = 0, [], 0
    for next_way, next_group, _, more in _stretches(board, standing):
        if (next_way, next_group) == (way, group):
            times += more
        else:
            if times > 0:
                yield (way, list(group), times)
            way, group, times = next_way, next_group, more
    if times > 0:
        yield (way, list(group), times)


def run(board, standing, beats):
    """Return (done, standing) after so many beats, or after all to rest if there are fewer."""
    done, place = 0, standing
    for way, group, times in runs(board, standing):
        more = min(times, beats - done)
        done, place = done + more, stepped(place, way, group, more)
        if done == beats:
            break
    return (done, place)


def rest(board, standing):
    """Return (beats, standing): the number of all beats to rest, and the standing there."""
    done, place = 0, standing
    for way, group, times in runs(board, standing):
        done, place = done + times, stepped(place, way, group, times)
    return (done, place)


def trace(board, standing, limit):
    """Return the list of the gains of the first beats, as many as the limit or as there are."""
    gains = []
    for _, _, gained, times in _stretches(board, standing):
        gains.extend([gained] * min(times, limit - len(gains)))
        if len(gains) == limit:
            break
    return gains


def _stretches(board, standing):
    """Generate (way, group, gain, times) for beats in a row that do the same step with the same gain.

    Gains never rise, so a step that was a beat is a best one as long as its own gain stays. It is the beat then, too:
    with one way and gain the group never shrinks, and up does not follow down. So only its own gain is looked at.
    """
    place = standing
    step = best_step(board, place)
    while step is not None:
        way, group, gained = step
        times = _times(board, place, way, group)
        yield (way, group, gained, times)
        place = stepped(place, way, group, times)
        step = best_step(board, place)


def _times(board, standing, way, group):
    """Return how many steps there are, at a step that gains, until one of the arguments that move is at an end."""
    times = []
    for term in board.terms():
        dial, other = nodes_of(term, board.size)
        if (dial in group) != (other in group):
            ahead = way if dial in group else -way
            here = argument(term, standing)
            times.extend([ahead * (end - here) for end in ends_of(term) if ahead * (end - here) > 0])
    return min(times)
