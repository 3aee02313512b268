"""Point 31, and point 32 for all functions of a board and a standing: gains, and standings that are not allowed."""

import random
import unittest

from mostpulled import balance, beats, gains, holding, moving, plans, steps
from mostpulled.boards import Board
from mostpulled.errors import NotAllowed
from mostpulled.gains import gain
from things import MOST, after, all_steps, left, odd_things, standings_near, strain, terms_made


class Example(unittest.TestCase):
    def test_point_31(self):
        board = Board(2, [('wish', 0, 0, 0, 1), ('wish', 1, 10, 10, 1), ('tie', 0, 1, 0, 0, 3)])
        found = [gain(board, (0, 10), 1, [0]), gain(board, (0, 10), -1, [1]), gain(board, (0, 10), 1, [0, 1])]
        self.assertEqual(found, [2, 2, -2])


class Gains(unittest.TestCase):
    def test_given_values(self):
        board = Board(3, [("wish", 0, 2, 5, 4), ("tie", 0, 1, 0, 0, 3), ("stop", 2, 0, 1), ("bar", 1, 2, -2, 2)])
        wanted = [((0, 0, 0), 1, [0], 1), ((0, 0, 0), 1, [1], -3), ((0, 0, 0), 1, [0, 1], 4),
                  ((0, 0, 0), 1, [0, 1, 2], 4), ((0, 0, 0), 1, [2], 0), ((0, 0, 0), -1, [2], None),
                  ((0, 0, 0), -1, [0, 1, 2], None), ((0, 0, 0), -1, [0], -7), ((0, 2, 0), 1, [1], None),
                  ((0, 2, 0), 1, [1, 2], -3), ((0, 2, 0), -1, [1], 3), ((3, 0, 1), -1, [0], 3), ((6, 2, 1), -1, [0], 7),
                  ((3, 3, 1), 1, [2], None), ((3, 3, 1), -1, [2], None), ((3, 3, 1), -1, [1, 2], -3),
                  ((2, 2, 1), -1, [0, 1], -4), ((5, 3, 1), 1, [0], -7)]
        for standing, way, group, gained in wanted:
            with self.subTest(standing, way=way, group=group):
                self.assertEqual(gain(board, standing, way, group), gained)

    def test_no_gain_is_not_none(self):
        self.assertEqual(gain(Board.free(1), (0,), 1, [0]), 0)
        self.assertIsNone(gain(Board(1, [("stop", 0, 0, 0)]), (0,), 1, [0]))

    def test_all_steps_against_the_strain(self):
        chance = random.Random(31)
        for at in range(64):
            size, middle = at % 8 + 1, chance.choice([0, 0, MOST - 5, 5 - MOST])
            terms, inner = terms_made(chance, size, chance.choice([3, 8, 24]), 5, middle)
            board = Board(size, terms)
            for standing in standings_near(chance, terms, inner, 2, 3):
                for way, group in all_steps(size):
                    before, behind = strain(terms, standing), strain(terms, after(standing, way, group))
                    wanted = None if behind is None else before - behind
                    self.assertEqual(gain(board, standing, way, group), wanted, (board, standing, way, group))

    def test_far_outside(self):
        board = Board(2, [("wish", 0, -MOST, -MOST, 30), ("tie", 0, 1, MOST, MOST, 30)])
        self.assertEqual(gain(board, (10 ** 39, -10 ** 39), -1, [0]), 60)
        self.assertEqual(gain(board, (10 ** 39, -10 ** 39), 1, [0]), -60)
        self.assertEqual(gain(board, (10 ** 39, -10 ** 39), -1, [0, 1]), 30)

    def test_nothing_is_changed(self):
        board, group = Board(2, [("wish", 0, 2, 5, 4), ("stop", 1, 0, 3)]), [0, 1]
        found = [gain(board, (0, 0), 1, group) for _ in range(3)]
        self.assertEqual([found, group, board], [[4] * 3, [0, 1], Board(2, [("wish", 0, 2, 5, 4), ("stop", 1, 0, 3)])])


class NotAllowedStandings(unittest.TestCase):
    def calls(self, board, standing, inner):
        """Return calls of all functions with a board and a standing; the standing is not allowed, inner is."""
        return [
            lambda: gains.gain(board, standing, 1, [0]), lambda: gains.gain(board, standing, -1, [0]),
            lambda: steps.best_step(board, standing), lambda: steps.best_steps(board, standing),
            lambda: balance.pulls(board, standing), lambda: balance.are_pulls(board, standing, [0] * len(board)),
            *[lambda thing=thing: balance.are_pulls(board, standing, thing) for thing in odd_things()],
            lambda: beats.beat(board, standing), lambda: next(beats.runs(board, standing)),
            lambda: list(beats.runs(board, standing)), lambda: beats.run(board, standing, 0),
            lambda: beats.run(board, standing, 10 ** 21), lambda: beats.rest(board, standing),
            lambda: beats.trace(board, standing, 0), lambda: beats.trace(board, standing, 400),
            lambda: plans.follow(board, standing, []), lambda: plans.follow(board, standing, [(1, [0], 1)]),
            *[lambda thing=thing: plans.follow(board, standing, thing) for thing in odd_things()],
            lambda: plans.follow(board, standing, [(1, [0], 1)] * 401), lambda: plans.to_best(board, standing),
            lambda: plans.shortest(board, standing, standing), lambda: plans.shortest(board, standing, inner),
            lambda: plans.shortest(board, inner, standing),
            lambda: holding.are_held(board, standing, 0, 0, [0] * len(board)),
            *[lambda thing=thing: holding.are_held(board, standing, 0, 1, thing) for thing in odd_things()],
            *[lambda at=at: moving.after(board, standing, at, 1) for at in range(len(board))],
            lambda: moving.settled(board, standing, []),
            *[lambda at=at: moving.settled(board, standing, [(at, 1)]) for at in range(len(board))],
        ]

    def check(self, at, call):
        """Check that a call raises NotAllowed(at), of just this class."""
        with self.assertRaises(NotAllowed) as caught:
            call()
        self.assertIs(type(caught.exception), NotAllowed)
        self.assertEqual(caught.exception.at, at)

    def test_one_and_several_are_left(self):
        board = Board(2, [("wish", 0, 0, 0, 1), ("stop", 0, -2, 2), ("tie", 0, 1, 0, 0, 3), ("bar", 0, 1, -1, 1),
                          ("stop", 1, -2, 2)])
        wanted = [((3, 2), 1), ((2, 3), 4), ((0, 2), 3), ((3, 3), 1), ((-9, 9), 1), ((1, -9), 3), ((MOST, MOST), 1),
                  ((0, 10 ** 39), 3), ((-2, -3), 4)]
        for standing, at in wanted:
            for call in self.calls(board, standing, (0, 0)):
                self.check(at, call)

    def test_boards_made_at_will(self):
        chance = random.Random(32)
        for at in range(16):
            size = at % 8 + 1
            terms, inner = terms_made(chance, size, 24, 5, chance.choice([0, MOST - 5]))
            board = Board(size, terms)
            for standing in standings_near(chance, [], inner, 3, 6):
                broken = left(terms, standing)
                if broken is not None:
                    for call in self.calls(board, standing, inner):
                        self.check(broken, call)

    def test_no_standing_is_allowed(self):
        board = Board(1, [("stop", 0, 0, 1), ("stop", 0, 2, 3)])
        for call in self.calls(board, (0,), (0,)):
            self.check(1, call)
        for call in self.calls(board, (2,), (2,)):
            self.check(0, call)

    def test_the_first_standing_goes_first(self):
        board = Board(1, [("stop", 0, -5, 9), ("stop", 0, -5, 1)])
        self.check(1, lambda: plans.shortest(board, (2,), (10,)))
        self.check(0, lambda: plans.shortest(board, (10,), (2,)))
        self.check(1, lambda: plans.shortest(board, (0,), (2,)))
        self.check(0, lambda: plans.shortest(board, (0,), (-6,)))


if __name__ == "__main__":
    unittest.main()
