"""What the tests share: odd values, boards made at will, and the definitions of point 2 written out plainly.

The definitions look at everything there is, one by one, and use nothing of the package.
"""

import random
from itertools import product

MOST = 10 ** 18
WORDS = ("wish", "tie", "stop", "bar")
FORCED = ("wish", "tie")


class Plain:
    """An object of no kind that the package knows."""


class Stubborn:
    """An object that must not be compared, measured, iterated or written."""

    def __eq__(self, other):
        raise RuntimeError("compared")

    def __lt__(self, other):
        raise RuntimeError("ordered")

    def __len__(self):
        raise RuntimeError("measured")

    def __iter__(self):
        raise RuntimeError("iterated")

    def __bool__(self):
        raise RuntimeError("tested")

    def __str__(self):
        raise RuntimeError("written")

    def __repr__(self):
        return "Stubborn()"

    __hash__ = None


def raised(call):
    """Return (class, *fields) of the error that a call raises, None if it raises none; other errors go on."""
    try:
        call()
    except ValueError as error:
        return (type(error), *vars(error).values())
    return None


def nested(depth, outer, inner):
    """Return inner in as many containers, made by outer from a list."""
    thing = inner
    for _ in range(depth):
        thing = outer([thing])
    return thing


def odd_things():
    """Return new things that are no integer, name, term, standing, group or step of any board."""
    return [
        None, True, False, "", "Wish", "0", "1", "a b", "a\n", "\na", "~", "wish,0,0,5,3", "x" * 10000,
        b"", b"a", b"wish", (), [], {}, set(), frozenset({"a"}), {"wish"}, {"a": 1}, {0: ["x"]}, {(): ()},
        range(3), Plain(), Plain, Stubborn(), len, int, Ellipsis, NotImplemented, ValueError("a"),
        [None], (None,), ([],), [[]], [()], ((),), ["a"], ("a",), [True], (True,), (False, False),
        nested(6, list, None), nested(6, tuple, None), nested(5, list, {"a": ()}), nested(6, tuple, "wish"),
        ["wish", 0, 0, 5, 3], {"wish": 0}, ("wish", {}), ({}, 0, 0, 5, 3), ([], 0, 0, 5), (["wish"], 0, 0, 5, 3),
        (("wish",), 0, 0, 5, 3), (None,) * 4, ((),) * 5, ([],) * 6, (Stubborn(),) * 4, (Stubborn(),) * 5,
        (Stubborn(),) * 2, [Stubborn()] * 2, ("wish",) * 5, ("tie",) * 6, [None] * 9999, (None,) * 9999,
        {k: None for k in range(4999)}, ("wish", Stubborn(), 0, 5, 3), ("stop", 0, Stubborn(), 5), (1, Stubborn()),
        (Stubborn(), [0]), (1, [Stubborn()]), ("bar", 0, Stubborn(), 0, 5),
    ]


def term_around(chance, word, size, inner, span):
    """Return a term made at will, with ends near its argument at a standing; a stop or bar allows it."""
    dials = chance.sample(range(size), 2 if word in ("tie", "bar") else 1)
    at = difference(dials, inner)
    below, above = chance.choice([0, 0, 1, chance.randint(0, span)]), chance.choice([0, 1, chance.randint(0, span)])
    if word in FORCED:
        at = at + chance.randint(-span, span)
    low, high = max(at - below, -MOST), min(at + above, MOST)
    if low > high:
        low = high = MOST if at > 0 else -MOST
    force = (chance.choice([1, 2, 3, 30, chance.randint(1, 30)]),)
    return (word, *dials, low, high) + (force if word in FORCED else ())


def terms_made(chance, size, many, span, middle=0, words=WORDS):
    """Return (terms, standing): so many terms made at will and a standing that they allow."""
    inner = tuple(chance.randint(max(middle - span, -MOST), min(middle + span, MOST)) for _ in range(size))
    words = words if size > 1 else [word for word in words if word in ("wish", "stop")] or ["wish"]
    return [term_around(chance, chance.choice(words), size, inner, span) for _ in range(many)], inner


def standings_near(chance, terms, inner, span, many):
    """Return the standing and allowed ones around it that are found at will."""
    found = [inner]
    for _ in range(many):
        reach = chance.choice([1, span, 3 * span])
        standing = tuple(setting + chance.randint(-reach, reach) for setting in chance.choice(found))
        if left(terms, standing) is None:
            found.append(standing)
    return found


def small_boards(seed, many, sizes=3, words=WORDS):
    """Return (size, terms) of small boards of 1 dial on made at will, which may contradict themselves."""
    chance = random.Random(seed)
    made = []
    for at in range(many):
        size = at % sizes + 1
        terms = []
        while len(terms) < at % 7 + 1:
            word = chance.choice(words if size > 1 else [word for word in words if word in ("wish", "stop")])
            low, high = sorted([chance.randint(-2, 2), chance.randint(-2, 2)])
            dials = chance.sample(range(size), 2 if word in ("tie", "bar") else 1)
            terms.append((word, *dials, low, high) + ((chance.randint(1, 3),) if word in FORCED else ()))
        made.append((size, terms))
    return made


def great_boards(seed, many):
    """Return (size, terms, allowed standing) of boards of 1 to 8 dials made at will."""
    chance = random.Random(seed)
    made = []
    for at in range(many):
        size, span = at % 8 + 1, chance.choice([1, 3, 9, 10 ** 17])
        middle = chance.choice([0, 0, MOST - span, span - MOST])
        words = chance.choice([WORDS, WORDS + FORCED * 3, FORCED, ("tie", "bar"), ("stop", "bar", "tie")])
        made.append((size, *terms_made(chance, size, chance.choice([4, 10, 24, 24]), span, middle, words)))
    return made


def put_off(terms, offsets):
    """Return the terms with the ranges where they are if each dial is moved by its offset."""
    found = []
    for term in terms:
        by = difference(dials_of(term), offsets)
        low, high = ends(term)
        found.append((term[0], *dials_of(term), low + by, high + by) + (term[-1:] if term[0] in FORCED else ()))
    return found


def great_offsets(chance, size):
    """Return offsets near the greatest values by which small terms may be put off."""
    middle = chance.choice([-1, 1]) * (MOST - 3)
    return tuple(middle + chance.choice([0, 0, -1, 1, -middle, -middle // 2]) for _ in range(size))


def dials_of(term):
    """Return the dials of a term, its other one behind."""
    return term[1:3] if term[0] in ("tie", "bar") else term[1:2]


def ends(term):
    """Return the ends of a term, counted from the back of the tuple."""
    return term[-3:-1] if term[0] in FORCED else term[-2:]


def difference(dials, standing):
    """Return the setting of a dial, less that of the other one if there are two."""
    return standing[dials[0]] - (standing[dials[1]] if len(dials) == 2 else 0)


def away(term, standing):
    """Return the distance of a term at a standing."""
    low, high = ends(term)
    at = difference(dials_of(term), standing)
    return low - at if at < low else at - high if at > high else 0


def left(terms, standing):
    """Return the least index of a stop or bar that the standing leaves, or None."""
    broken = [at for at, term in enumerate(terms) if term[0] not in FORCED and away(term, standing)]
    return min(broken, default=None)


def strain(terms, standing):
    """Return the strain of a standing, or None if it is not allowed."""
    if left(terms, standing) is not None:
        return None
    return sum(term[-1] * away(term, standing) for term in terms if term[0] in FORCED)


def all_steps(size):
    """Return all steps, up before down, the groups of a way in ascending order."""
    groups = sorted([dial for dial in range(size) if mask >> dial & 1] for mask in range(1, 2 ** size))
    return [(way, group) for way in (1, -1) for group in groups]


def after(standing, way, group, times=1):
    """Return the standing after so many steps."""
    return tuple(setting + way * times * (dial in group) for dial, setting in enumerate(standing))


def gain(terms, standing, way, group):
    """Return the strain before a step less the strain after it, or None if it is not possible."""
    behind = strain(terms, after(standing, way, group))
    return None if behind is None else strain(terms, standing) - behind


def best_of_all(terms, standing):
    """Return (greatest gain, best steps) of all steps; (0, []) at rest."""
    gains = [(gain(terms, standing, way, group), (way, group)) for way, group in all_steps(len(standing))]
    most = max([0] + [gained for gained, _ in gains if gained is not None])
    return most, [step for gained, step in gains if gained == most > 0]


def beat_of(terms, standing):
    """Return (way, group, gain) of a beat, or None at rest."""
    most, steps = best_of_all(terms, standing)
    if not steps:
        return None
    way = steps[0][0]
    return (way, min([group for other, group in steps if other == way], key=len), most)


def fits(term, pull, asked):
    """Return whether a pull fits an argument, by the words of point 2."""
    low, high = ends(term)
    if term[0] in FORCED:
        force = term[-1]
        if asked < low:
            return pull == force
        if asked > high:
            return pull == -force
        if low == high:
            return -force <= pull <= force
        if asked == low:
            return 0 <= pull <= force
        if asked == high:
            return -force <= pull <= 0
        return pull == 0
    if low == high:
        return True
    if asked == low:
        return pull >= 0
    if asked == high:
        return pull <= 0
    return pull == 0


def all_fit(terms, pulls, standing):
    """Return whether all pulls fit the arguments at the standing."""
    return all(fits(term, pull, difference(dials_of(term), standing)) for term, pull in zip(terms, pulls))


def is_whole(thing):
    """Return whether thing is an integer of the document."""
    return type(thing) is int


def balanced(size, terms, thing):
    """Return whether thing is a list of balanced pulls."""
    if type(thing) is not list or len(thing) != len(terms) or not all(map(is_whole, thing)):
        return False
    for dial in range(size):
        up = sum(pull for term, pull in zip(terms, thing) if dials_of(term)[0] == dial)
        down = sum(pull for term, pull in zip(terms, thing) if dials_of(term)[1:] == (dial,))
        if up != down:
            return False
    return all(-term[-1] <= pull <= term[-1] for term, pull in zip(terms, thing) if term[0] in FORCED)


def worth(terms, pulls):
    """Return the worth of pulls."""
    return (sum(pull * ends(term)[0] for term, pull in zip(terms, pulls) if pull > 0)
            + sum(pull * ends(term)[1] for term, pull in zip(terms, pulls) if pull < 0))


def box(size, reach):
    """Return all standings whose settings are from -reach to reach."""
    return list(product(range(-reach, reach + 1), repeat=size))


def best_in_box(terms, standings):
    """Return (least strain, best standings) of all these standings; (None, []) if none is allowed."""
    strains = [(strain(terms, standing), standing) for standing in standings]
    least = min((found for found, _ in strains if found is not None), default=None)
    return least, [standing for found, standing in strains if found is not None and found == least]


def far(one, other):
    """Return the greatest rise of a dial plus the greatest fall of a dial."""
    return (max(max(there - here, 0) for here, there in zip(one, other))
            + max(max(here - there, 0) for here, there in zip(one, other)))
