"""Plans: steps one after another, and shortest ones."""

from mostpulled.beats import rest
from mostpulled.errors import BadStep
from mostpulled.gains import check_allowed, stepped
from mostpulled.kinds import is_integer, is_step


def apart(one, other):
    """Return (rise, fall): the greatest rise and the greatest fall of a dial from one standing to the other one."""
    rises = [there - here for here, there in zip(one, other)]
    return (max([0] + rises), max([0] + [-rise for rise in rises]))


def exchange(one, other, numbers):
    """Return both standings after each dial of the first one fell, and of the second one rose, towards the other.

    It does so once for each of the numbers that is at most its setting in the first one less that in the second one.
    """
    changes = []
    for first, second in zip(one, other):
        changes.append(len([number for number in numbers if number <= first - second]))
    return (tuple([setting - change for setting, change in zip(one, changes)]),
            tuple([setting + change for setting, change in zip(other, changes)]))


def follow(board, standing, plan):
    """Return the standing after a plan, any value; BadStep tells the first item that cannot be followed."""
    check_allowed(board, standing)
    if not isinstance(plan, list) or len(plan) > 400:
        raise BadStep(0)
    place = standing
    for at, item in enumerate(plan):
        if not _is_item(item, board.size):
            raise BadStep(at)
        way, group, times = item
        place = stepped(place, way, group, times)
        # Steps of one group move each argument one way, so none leaves a range and is back in it at the last one.
        if board.left(place) is not None:
            raise BadStep(at)
    return place


def shortest(board, standing, other):
    """Return a plan with the fewest steps from an allowed standing to another one."""
    check_allowed(board, standing)
    check_allowed(board, other)
    # The higher setting of each dial gives an allowed standing, too, and so does all in between on these ways.
    top = [max(here, there) for here, there in zip(standing, other)]
    return (_straight(1, [high - here for high, here in zip(top, standing)])
            + _straight(-1, [high - there for high, there in zip(top, other)]))


def to_best(board, standing):
    """Return a plan with the fewest steps from the standing to a best one."""
    _, best = rest(board, standing)
    return shortest(board, standing, best)


def _is_item(thing, size):
    """Return whether thing is an item (way, group, times) of a plan for a board of this size."""
    if not isinstance(thing, tuple) or len(thing) != 3:
        return False
    return is_step(thing[:2], size) and is_integer(thing[2]) and thing[2] >= 1


def _straight(way, distances):
    """Return the plan that moves each dial by its distance, each one from the first step on."""
    plan = []
    done = 0
    for far in sorted(distances):
        if far > done:
            group = [dial for dial, distance in enumerate(distances) if distance >= far]
            plan.append((way, group, far - done))
            done = far
    return plan
