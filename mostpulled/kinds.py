"""Which things are integers, values, forces and names, and terms, standings, groups, steps and deeds of a board.

Each function takes any value as thing, so it asks for the kind of a thing before it looks inside.
"""

from mostpulled.terms import dials_of, ends_of, has_force

# How many items the tuple of a term has, by its word, and that of a deed.
TERMS = {"wish": 5, "tie": 6, "stop": 4, "bar": 5}
DEEDS = {"add": 3, "remove": 2, "move": 3, "turn": 3, "beat": 2}


def is_integer(thing):
    """Return whether thing is an integer: Python counts True and False as int, this package does not."""
    return isinstance(thing, int) and not isinstance(thing, bool)


def is_value(thing):
    """Return whether thing is a value, as the end of a range is."""
    return is_integer(thing) and -10 ** 18 <= thing <= 10 ** 18


def is_force(thing):
    """Return whether thing is the force of a wish or tie."""
    return is_integer(thing) and 1 <= thing <= 30


def is_name(thing):
    """Return whether thing is a name."""
    if not isinstance(thing, str) or not 1 <= len(thing) <= 8:
        return False
    return all(["a" <= letter <= "z" for letter in thing])


def is_dial(thing, size):
    """Return whether thing is the number of a dial of a board of this size."""
    return is_integer(thing) and 0 <= thing < size


def is_term(thing, size):
    """Return whether thing is a term of a board of this size."""
    word = _word(thing)
    if word not in TERMS or len(thing) != TERMS[word]:
        return False
    if has_force(thing) and not is_force(thing[-1]):
        return False
    return _are_dials(dials_of(thing), size) and _are_ends(ends_of(thing))


def is_standing(thing, size):
    """Return whether thing is a standing of a board of this size."""
    if not isinstance(thing, tuple) or len(thing) != size:
        return False
    return all([is_integer(setting) for setting in thing])


def is_group(thing, size):
    """Return whether thing is a group of dials of a board of this size."""
    if not isinstance(thing, list) or len(thing) == 0:
        return False
    if not all([is_dial(dial, size) for dial in thing]):
        return False
    return all([dial < after for dial, after in zip(thing, thing[1:])])


def is_step(thing, size):
    """Return whether thing is a step (way, group) of a board of this size."""
    if not isinstance(thing, tuple) or len(thing) != 2:
        return False
    way, group = thing
    return is_integer(way) and way in (1, -1) and is_group(group, size)


def is_deed(thing, size):
    """Return whether thing is a deed of a book of this size."""
    word = _word(thing)
    if word not in DEEDS or len(thing) != DEEDS[word]:
        return False
    if word == "turn":
        return is_dial(thing[1], size) and is_value(thing[2])
    if word == "beat":
        return is_integer(thing[1]) and 0 <= thing[1] <= 10 ** 21
    if not is_name(thing[1]):
        return False
    if word == "add":
        return is_term(thing[2], size)
    return word == "remove" or is_integer(thing[2])


def _word(thing):
    """Return the string that a tuple begins with, an empty one if thing is no such tuple."""
    if not isinstance(thing, tuple) or len(thing) == 0 or not isinstance(thing[0], str):
        return ""
    return thing[0]


def _are_dials(parts, size):
    """Return whether one or two parts are different dials of a board of this size."""
    if not all([is_dial(part, size) for part in parts]):
        return False
    return len(parts) == 1 or parts[0] != parts[1]


def _are_ends(parts):
    """Return whether two parts are values, the first one at most the second one."""
    low, high = parts
    return is_value(low) and is_value(high) and low <= high
