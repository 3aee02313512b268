"""Moved wishes: what follows when the range of a wish is moved, and where a board comes to rest behind each move."""

from mostpulled.beats import rest, runs
from mostpulled.errors import NotRest, NotWish
from mostpulled.gains import check_allowed, stepped
from mostpulled.steps import best_step


def after(board, standing, at, by):
    """Return (beats, way, standing): the beats to rest, and their way, from a best standing behind a moved wish."""
    if best_step(board, standing) is not None:
        raise NotRest()
    _check_wish(board, at)
    behind = board.moved(at, by)
    done, last, place = 0, 0, standing
    for way, group, times in runs(behind, standing):
        done, last, place = done + times, way, stepped(place, way, group, times)
    return (done, last, place)


def settled(board, standing, moves):
    """Return the list of (beats, standing) behind each of the moves (at, by) of wishes, one after another."""
    check_allowed(board, standing)
    for at, _ in moves:
        _check_wish(board, at)
    found = []
    now, place = board, standing
    for at, by in moves:
        now = now.moved(at, by)
        beats, place = rest(now, place)
        found.append((beats, place))
    return found


def _check_wish(board, at):
    """Raise NotWish if the term of this index is not a wish."""
    if board.terms()[at][0] != "wish":
        raise NotWish(at)
