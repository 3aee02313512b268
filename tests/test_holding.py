"""Points 80, 81 and 12: the least strain with one dial at a setting, and the forces that hold it there."""

import random
import unittest
from itertools import product

from mostpulled.balance import are_pulls, is_balanced, pulls
from mostpulled.beats import rest
from mostpulled.boards import Board
from mostpulled.errors import NoneAllowed, NotAllowed
from mostpulled.holding import are_held, forces, held, least_at
from mostpulled.least import dial_range, strain
from mostpulled.starts import some
from things import (
    FORCED, MOST, Stubborn, all_fit, box, dials_of, great_boards, great_offsets, is_whole, left, odd_things, put_off,
    small_boards, terms_made,
)
from things import strain as plain_strain

BOARD = Board(2, [('wish', 0, 0, 0, 1), ('wish', 1, 10, 10, 1), ('tie', 0, 1, 0, 0, 3)])


class Examples(unittest.TestCase):
    def test_point_80(self):
        found = [least_at(BOARD, 0, 20), forces(BOARD, 0, 20), forces(BOARD, 0, 10), forces(BOARD, 0, 5)]
        self.assertEqual(found, [30, (2, 2), (0, 2), (0, 0)])

    def test_point_81(self):
        found = [held(BOARD, 0, 1), held(BOARD, 0, 2), held(BOARD, 0, 3), are_held(BOARD, (20, 20), 0, 2, [-1, -1, -1])]
        self.assertEqual(found, [(10, 10), (10, None), None, True])


def least_strains(size, terms, dial, reach):
    """Return the dict of the least strains in a box by the setting of the dial, from -reach to reach.

    The others go so far that they reach each place that terms with ends of at most 2 can pull them to.
    """
    found = {}
    others = list(product(range(-reach - 4, reach + 5), repeat=size - 1))
    for setting in range(-reach, reach + 1):
        strains = [plain_strain(terms, rest[:dial] + (setting,) + rest[dial:]) for rest in others]
        found[setting] = min([strained for strained in strains if strained is not None], default=None)
    return found


def slopes(strains, setting):
    """Return the slopes of the strains on both sides of a setting, None where there is none."""
    here, below, above = (strains.get(at) for at in (setting, setting - 1, setting + 1))
    return (None if below is None else here - below, None if above is None else above - here)


class LeastAt(unittest.TestCase):
    def check(self, size, terms, dial, reach, offsets):
        """Check least_at and forces for all settings of a dial against a box."""
        board = Board(size, put_off(terms, offsets))
        strains = least_strains(size, terms, dial, reach)
        if all(strained is None for strained in strains.values()):
            self.assertEqual(some(board)[0], "never")
            return
        for setting in range(1 - reach, reach):
            at = setting + offsets[dial]
            self.assertEqual(least_at(board, dial, at), strains[setting], (board, dial, at))
            wanted = None if strains[setting] is None else slopes(strains, setting)
            self.assertEqual(forces(board, dial, at), wanted, (board, dial, at))
        self.check_far(board, dial, strains, reach, offsets[dial])

    def check_far(self, board, dial, strains, reach, offset):
        """Check settings far outside, where the slope stays as it is at the edges of the box."""
        for edge, way in [(reach - 1, 1), (1 - reach, -1)]:
            for far in (reach, 10 ** 9, 10 ** 30):
                at = offset + edge + way * far
                if strains[edge] is None:
                    self.assertEqual([least_at(board, dial, at), forces(board, dial, at)], [None, None])
                else:
                    slope = strains[edge + way] - strains[edge]
                    self.assertEqual(least_at(board, dial, at), strains[edge] + far * slope)
                    self.assertEqual(forces(board, dial, at), (slope * way, slope * way))

    def test_boards_of_one_and_two_dials(self):
        for size, terms in small_boards(800, 120, 2):
            for dial in range(size):
                self.check(size, terms, dial, 8, (0,) * size)

    def test_boards_of_three_dials(self):
        for size, terms in small_boards(801, 60)[2::3]:
            self.check(3, terms, size % 3, 8, (0,) * size)
            self.check(3, terms, (size + 1) % 3, 8, (0,) * size)

    def test_a_board_of_four_dials(self):
        terms = [("wish", 0, 1, 1, 3), ("tie", 0, 1, 0, 1, 2), ("tie", 1, 2, -1, -1, 2), ("bar", 2, 3, -1, 2),
                 ("stop", 3, -2, 2), ("wish", 3, 0, 0, 1)]
        for dial in (0, 3):
            strains = least_strains(4, terms, dial, 3)
            for setting in range(-2, 3):
                self.assertEqual(least_at(Board(4, terms), dial, setting), strains[setting])
                self.assertEqual(forces(Board(4, terms), dial, setting),
                                 None if strains[setting] is None else slopes(strains, setting))

    def test_great_ends(self):
        chance = random.Random(802)
        for size, terms in small_boards(803, 60):
            dial = chance.randrange(size)
            self.check(size, terms, dial, 7, great_offsets(chance, size))

    def test_settings_at_the_ends_of_stops(self):
        board = Board(2, [("stop", 0, 2, 4), ("wish", 0, 0, 0, 5), ("bar", 0, 1, 0, 0), ("wish", 1, 9, 9, 2)])
        self.assertEqual([least_at(board, 0, setting) for setting in range(1, 6)], [None, 24, 27, 30, None])
        self.assertEqual([forces(board, 1, setting) for setting in range(1, 6)],
                         [None, (None, 3), (3, 3), (3, None), None])
        board = Board(1, [("stop", 0, MOST, MOST)])
        self.assertEqual([least_at(board, 0, MOST + by) for by in (-1, 0, 1)], [None, 0, None])
        self.assertEqual([forces(board, 0, MOST + by) for by in (-1, 0, 1)], [None, (None, None), None])
        self.assertEqual([least_at(board, 0, far) for far in (10 ** 39, -10 ** 39)], [None, None])

    def test_great_boards(self):
        chance = random.Random(804)
        for size, terms, inner in great_boards(805, 64):
            board = Board(size, terms)
            dial = chance.randrange(size)
            for setting in (inner[dial], inner[dial] + chance.randint(-9, 9), chance.randint(-MOST, MOST), 10 ** 39):
                found = forces(board, dial, setting)
                if found is None:
                    self.assertIsNone(least_at(board, dial, setting))
                    continue
                here = least_at(board, dial, setting)
                for way, force in [(-1, found[0]), (1, found[1])]:
                    beside = least_at(board, dial, setting + way)
                    self.assertEqual(force, None if beside is None else way * (beside - here))
                    if beside is not None:
                        self.assertEqual(forces(board, dial, setting + way)[way == -1], force)
                if None not in found:
                    self.assertLessEqual(*found)
                self.assertGreaterEqual(here, strain(board))

    def test_free_board(self):
        self.assertEqual([least_at(Board.free(3), 1, 10 ** 39), forces(Board.free(3), 1, -7)], [0, (0, 0)])


class Held(unittest.TestCase):
    def check(self, size, terms, dial, reach, offsets):
        """Check held for all forces that matter against the forces in a box."""
        board = Board(size, put_off(terms, offsets))
        strains = least_strains(size, terms, dial, reach + 1)
        possible = [setting for setting in strains if strains[setting] is not None and abs(setting) <= reach]
        if not possible:
            return
        ends = {setting: slopes(strains, setting) for setting in possible}
        known = {force for pair in ends.values() for force in pair if force is not None}
        tried = {-1000, 1000, 0, 1, -1} | known | {force + 1 for force in known} | {force - 1 for force in known}
        for force in sorted(tried):
            holding = [setting for setting, (least, greatest) in ends.items()
                       if (least is None or least <= force) and (greatest is None or force <= greatest)]
            low, high = min(holding, default=0), max(holding, default=0)
            wanted = (None if low == -reach else low + offsets[dial], None if high == reach else high + offsets[dial])
            self.assertEqual(held(board, dial, force), wanted if holding else None, (board, dial, force))
        self.assertEqual(held(board, dial, 0), dial_range(board, dial))

    def test_boards_of_one_and_two_dials(self):
        for size, terms in small_boards(810, 150, 2):
            for dial in range(size):
                self.check(size, terms, dial, 8, (0,) * size)

    def test_boards_of_three_dials(self):
        for size, terms in small_boards(811, 75)[2::3]:
            self.check(3, terms, len(terms) % 3, 8, (0,) * size)

    def test_great_ends(self):
        chance = random.Random(812)
        for size, terms in small_boards(813, 60):
            self.check(size, terms, chance.randrange(size), 8, great_offsets(chance, size))

    def test_ends_that_do_not_exist(self):
        board = Board(1, [("wish", 0, -4, 7, 3), ("wish", 0, 0, 0, 2)])
        wanted = [(-6, None), (-5, (None, -4)), (-4, (-4, -4)), (-2, (-4, 0)), (-1, (0, 0)), (0, (0, 0)), (2, (0, 7)),
                  (4, (7, 7)), (5, (7, None)), (6, None), (1000, None), (-1000, None)]
        self.assertEqual([(force, held(board, 0, force)) for force, _ in wanted], wanted)
        stopped = board.also(("stop", 0, -9, 9))
        self.assertEqual([held(stopped, 0, force) for force in (-1000, -5, 5, 6, 1000)],
                         [(-9, -9), (-9, -4), (7, 9), (9, 9), (9, 9)])
        self.assertEqual([held(Board.free(2), 1, force) for force in (-1000, -1, 0, 1, 1000)],
                         [None, None, (None, None), None, None])
        bound = Board(2, [("bar", 0, 1, 0, 5), ("wish", 1, 3, 3, 30)])
        self.assertEqual([held(bound, 0, force) for force in (-31, -30, -29, 0, 29, 30, 31)],
                         [None, (None, 3), (3, 3), (3, 8), (8, 8), (8, None), None])

    def test_great_boards(self):
        chance = random.Random(814)
        nowhere = 0
        for size, terms, _ in great_boards(815, 80) + [
                (8, *terms_made(chance, 8, 24, 10 ** 17, words=words)) for words in [FORCED] * 8 + [("tie", "wish",
                        "bar")]]:
            board = Board(size, terms)
            dial = chance.randrange(size)
            self.assertEqual(held(board, dial, 0), dial_range(board, dial))
            for force in (-1000, 1000, chance.randint(-60, 60), chance.randint(-30, 30)):
                found = held(board, dial, force)
                if found is None:
                    nowhere += 1
                    self.check_nowhere(board, dial, force)
                    continue
                for end, beyond in zip(found, (-1, 1)):
                    at = end if end is not None else beyond * 10 ** 20
                    self.assertTrue(self.holds(board, dial, at, force), (board, dial, at, force))
                    if end is not None:
                        self.assertFalse(self.holds(board, dial, at + beyond, force), (board, dial, at, force))
        self.assertGreater(nowhere, 30)

    def holds(self, board, dial, setting, force):
        """Return whether a force holds a dial at a setting."""
        found = forces(board, dial, setting)
        if found is None:
            return False
        least, greatest = found
        return (least is None or least <= force) and (greatest is None or force <= greatest)

    def check_nowhere(self, board, dial, force):
        """Check that even far away the force is greater than those that hold the dial there."""
        far = forces(board, dial, 10 ** 20 if force > 0 else -10 ** 20)
        self.assertTrue(far[0] > force if force < 0 else far[1] < force, (board, dial, force, far))


def shows(board, standing, dial, force, thing):
    """Return whether thing is a list of pulls as point 81 describes, for an allowed standing."""
    terms = board.terms()
    if type(thing) is not list or len(thing) != len(terms) or not all(map(is_whole, thing)):
        return False
    if not all_fit(terms, thing, standing):
        return False
    for other in range(board.size):
        up = sum(pull for term, pull in zip(terms, thing) if dials_of(term)[0] == other)
        down = sum(pull for term, pull in zip(terms, thing) if dials_of(term)[1:] == (other,))
        if up + (force if other == dial else 0) != down:
            return False
    return True


class AreHeld(unittest.TestCase):
    def check(self, board, standing, dial, force, thing):
        """Check the answer against the definition; return it."""
        before = repr(thing)
        wanted = shows(board, standing, dial, force, thing)
        self.assertIs(are_held(board, standing, dial, force, thing), wanted,
                      (board, standing, dial, force, before[:200]))
        self.assertEqual(repr(thing), before)
        return wanted

    def test_some_pulls_if_and_only_if_the_dial_is_held(self):
        chance = random.Random(816)
        good = bad = 0
        for size, terms in small_boards(817, 120):
            if len(terms) > 4:
                continue
            board, dial = Board(size, terms), chance.randrange(size)
            strains = least_strains(size, terms, dial, 4)
            for standing in chance.sample(box(size, 3), min(7, 7 ** size)):
                if left(terms, standing) is not None:
                    continue
                ranges = [range(-term[-1], term[-1] + 1) if term[0] in FORCED else range(-7, 8) for term in terms]
                lists = [list(row) for row in product(*ranges)]
                fitting = [row for row in lists if all_fit(terms, row, standing)]
                is_least = plain_strain(terms, standing) == strains[standing[dial]]
                least, greatest = slopes(strains, standing[dial])
                for force in range(-4, 5):
                    holds = (least is None or least <= force) and (greatest is None or force <= greatest)
                    found = any([are_held(board, standing, dial, force, row) for row in fitting])
                    self.assertIs(found, is_least and holds, (board, standing, dial, force))
                    good, bad = good + found, bad + (not found)
                    for row in chance.sample(lists, min(5, len(lists))):
                        self.check(board, standing, dial, force, row)
        self.assertGreater(good, 100)
        self.assertGreater(bad, 100)

    def pulled(self, board, dial, force):
        """Return (standing, pulls) that are held: those of the board with one more wish in place of the hand."""
        end = (1 if force > 0 else -1) * 10 ** 21
        with_hand = board.also(("wish", dial, end, end, abs(force)))
        _, standing = rest(with_hand, some(board)[1])
        return standing, pulls(with_hand, standing)[:-1]

    def test_changed_pulls(self):
        chance = random.Random(818)
        good = 0
        for size, terms, _ in great_boards(819, 60):
            board, dial, force = Board(size, terms), chance.randrange(size), chance.choice([-9, -2, -1, 1, 2, 9])
            if held(board, dial, force) is None:
                continue
            standing, found = self.pulled(board, dial, force)
            self.assertIs(self.check(board, standing, dial, force, found), True)
            good += 1
            for at in range(len(found)):
                for other in (found[at] + 1, found[at] - 1, -found[at], True, False, None, str(found[at]), [found[at]]):
                    self.check(board, standing, dial, force, found[:at] + [other] + found[at + 1:])
            self.assertIs(self.check(board, standing, dial, force + 1, found), False)
            self.assertIs(self.check(board, standing, dial, force - 1, found), False)
            self.assertIs(self.check(board, standing, dial, -force, found), False)
            self.assertIs(self.check(board, standing, dial, 0, found), False)
            if size > 1:
                self.assertIs(self.check(board, standing, (dial + 1) % size, force, found), False)
            for other in range(size):
                for by in (-1, 1, MOST):
                    place = standing[:other] + (standing[other] + by,) + standing[other + 1:]
                    if left(terms, place) is None:
                        self.check(board, place, dial, force, found)
            for thing in (tuple(found), found[:-1], found + [0], [found], {0: found}, repr(found), None, []):
                self.check(board, standing, dial, force, thing)
        self.assertGreater(good, 20)

    def test_given_pulls(self):
        standing = (20, 20)
        for thing, wanted in [([-1, -1, -1], True), ([-1, -1, 0], False), ([-1, -1, 1], False), ([1, -1, -1], False),
                              ([0, -1, -1], False), ([-1, -1], False), ([-1, -1, -1, 0], False), ((-1, -1, -1), False),
                              ([-1, -1, True], False), (None, False), ("held", False), ([[-1, -1, -1]], False),
                              ({0: -1, 1: -1, 2: -1}, False), ([-1, -1, "-1"], False), ([-1, None, -1], False)]:
            with self.subTest(thing):
                self.assertIs(are_held(BOARD, standing, 0, 2, thing), wanted)
        self.assertIs(are_held(BOARD, standing, 1, 2, [-1, -1, 1]), True)
        self.assertIs(are_held(BOARD, standing, 0, 2, [-1, -1, 1]), False)
        for place in [(19, 20), (20, 19), (0, 0), (9, 9), (-1, -1)]:
            self.assertIs(are_held(BOARD, place, 0, 2, [-1, -1, -1]), False)
        for place in [(10, 10), (11, 11), (10 ** 39, 10 ** 39)]:
            self.assertIs(are_held(BOARD, place, 0, 2, [-1, -1, -1]), True)
        self.assertIs(are_held(BOARD, (10, 10), 0, 0, [-1, 1, 1]), True)
        for force in (1, 3, -2, 10 ** 39):
            self.assertIs(are_held(BOARD, standing, 0, force, [-1, -1, -1]), False)

    def test_forces_and_pulls_of_any_size(self):
        board = Board(2, [("stop", 0, 0, 5), ("bar", 0, 1, 0, 0)])
        for many in (1, 31, 10 ** 39):
            self.assertIs(are_held(board, (5, 5), 0, many, [-many, 0]), True)
            self.assertIs(are_held(board, (5, 5), 1, many, [-many, -many]), False)
            self.assertIs(are_held(board, (5, 5), 1, many, [-many, many]), True)
            self.assertIs(are_held(board, (0, 0), 0, -many, [many, 0]), True)
            self.assertIs(are_held(board, (5, 5), 0, -many, [many, 0]), False)
            self.assertIs(are_held(board, (3, 3), 0, many, [-many, 0]), False)

    def test_without_force_they_are_pulls(self):
        chance = random.Random(820)
        for size, terms, _ in great_boards(821, 40):
            board, dial = Board(size, terms), chance.randrange(size)
            standing, found = self.pulled(board, dial, 0)
            self.assertIs(are_held(board, standing, dial, 0, found), True)
            self.assertEqual([are_pulls(board, standing, found), is_balanced(board, found)], [True, True])

    def test_odd_things(self):
        for thing in odd_things():
            self.assertIs(are_held(BOARD, (20, 20), 0, 2, thing), False)
            self.assertIs(are_held(BOARD, (20, 20), 0, 2, [-1, -1, thing]), False)
            self.assertIs(are_held(BOARD, (20, 20), 0, 2, [thing] * 3), False)
        self.assertIs(are_held(BOARD, (20, 20), 0, 2, [Stubborn(), Stubborn(), Stubborn()]), False)
        self.assertIs(are_held(Board.free(1), (3,), 0, 0, []), True)
        self.assertIs(are_held(Board.free(1), (3,), 0, 1, []), False)
        self.assertIs(are_held(Board.free(1), (3,), 0, 0, ()), False)

    def test_nothing_is_changed(self):
        board, thing = Board(1, [("wish", 0, 2, 5, 4), ("stop", 0, 0, 9)]), [-4, 0]
        for _ in range(3):
            self.assertIs(are_held(board, (7,), 0, 4, thing), True)
            self.assertEqual([thing, board], [[-4, 0], Board(1, [("wish", 0, 2, 5, 4), ("stop", 0, 0, 9)])])
            self.assertEqual([least_at(board, 0, 7), forces(board, 0, 7), held(board, 0, 4)], [8, (4, 4), (5, 9)])


class NoStanding(unittest.TestCase):
    def test_none_allowed(self):
        boards = [Board(1, [("stop", 0, 0, 1), ("stop", 0, 2, 3)]),
                  Board(2, [("wish", 0, 0, 0, 1), ("bar", 0, 1, 2, 5), ("stop", 0, 0, 1), ("stop", 1, 0, 9)])]
        for board in boards:
            for call in [lambda: least_at(board, 0, 0), lambda: least_at(board, 0, 10 ** 39),
                         lambda: forces(board, 0, 1),
                         lambda: forces(board, 0, -MOST), lambda: held(board, 0, 0), lambda: held(board, 0, 1000)]:
                with self.assertRaises(NoneAllowed) as caught:
                    call()
                self.assertIs(type(caught.exception), NoneAllowed)

    def test_not_allowed_goes_first(self):
        board = Board(1, [("wish", 0, 0, 0, 1), ("stop", 0, 0, 1), ("stop", 0, 2, 3)])
        for standing, at in [((0,), 2), ((2,), 1), ((9,), 1)]:
            for thing in [[0, 0, 0], None, "pulls"]:
                with self.assertRaises(NotAllowed) as caught:
                    are_held(board, standing, 0, 0, thing)
                self.assertEqual([type(caught.exception), caught.exception.at], [NotAllowed, at])


if __name__ == "__main__":
    unittest.main()
