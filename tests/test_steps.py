"""Point 40: the steps that gain most, against a look at all groups and both ways."""

import random
import unittest

from mostpulled.boards import Board
from mostpulled.steps import best_step, best_steps
from things import FORCED, MOST, WORDS, beat_of, best_of_all, standings_near, terms_made


class Example(unittest.TestCase):
    def test_point_40(self):
        board = Board(2, [('wish', 0, 0, 0, 1), ('wish', 1, 10, 10, 1), ('tie', 0, 1, 0, 0, 3)])
        found = [best_step(board, (0, 10)), best_steps(board, (0, 10)), best_step(board, (4, 4))]
        self.assertEqual(found, [(1, [0], 2), [(1, [0]), (-1, [1])], None])


class Given(unittest.TestCase):
    def check(self, board, standing, step, all_steps):
        with self.subTest(repr(board), standing=standing):
            self.assertEqual([best_step(board, standing), best_steps(board, standing)], [step, all_steps])

    def test_at_rest(self):
        self.check(Board.free(1), (5,), None, [])
        self.check(Board.free(8), (5,) * 8, None, [])
        self.check(Board(1, [("wish", 0, 0, 3, 5)]), (3,), None, [])
        self.check(Board(1, [("wish", 0, 0, 3, 5), ("stop", 0, 7, 9)]), (7,), None, [])
        self.check(Board(2, [("wish", 0, 5, 5, 3), ("bar", 0, 1, 0, 0), ("wish", 1, 0, 0, 3)]), (4, 4), None, [])

    def test_order_of_groups(self):
        board = Board(3, [("wish", 0, 1, 1, 5)])
        self.check(board, (0, 0, 0), (1, [0], 5), [(1, [0]), (1, [0, 1]), (1, [0, 1, 2]), (1, [0, 2])])
        board = Board(3, [("wish", 2, -1, -1, 5)])
        self.check(board, (0, 0, 0), (-1, [2], 5), [(-1, [0, 1, 2]), (-1, [0, 2]), (-1, [1, 2]), (-1, [2])])

    def test_up_goes_first(self):
        board = Board(3, [("wish", 0, -1, -1, 5), ("wish", 1, 1, 1, 5), ("wish", 2, 1, 1, 5)])
        self.check(board, (0, 0, 0), (1, [1, 2], 10), [(1, [1, 2])])
        board = Board(2, [("wish", 0, -1, -1, 5), ("wish", 1, 1, 1, 5)])
        self.check(board, (0, 0), (1, [1], 5), [(1, [1]), (-1, [0])])
        self.check(board, (0, 1), (-1, [0], 5), [(-1, [0]), (-1, [0, 1])][:1])

    def test_up_with_more_dials_goes_before_down_with_fewer(self):
        board = Board(3, [("wish", 0, -1, -1, 5), ("wish", 1, 1, 1, 3), ("wish", 2, 1, 1, 2)])
        self.check(board, (0, 0, 0), (1, [1, 2], 5), [(1, [1, 2]), (-1, [0])])

    def test_greater_gain_goes_before_up(self):
        board = Board(2, [("wish", 0, -1, -1, 6), ("wish", 1, 1, 1, 5)])
        self.check(board, (0, 0), (-1, [0], 6), [(-1, [0])])

    def test_stops_and_bars_keep_dials_together(self):
        board = Board(3, [("wish", 0, 9, 9, 1), ("bar", 0, 1, 0, 0), ("bar", 1, 2, 0, 0)])
        self.check(board, (0, 0, 0), (1, [0, 1, 2], 1), [(1, [0, 1, 2])])
        board = Board(3, [("wish", 0, 9, 9, 1), ("bar", 0, 1, -9, 0), ("bar", 1, 2, -9, 5), ("stop", 2, 0, 0)])
        self.check(board, (0, 0, 0), (1, [0, 1], 1), [(1, [0, 1])])
        self.check(board, (5, 5, 0), None, [])

    def test_more_than_all_forces_against_a_stop(self):
        terms = [("wish", 0, 9, 9, 30)] * 23 + [("stop", 0, 0, 0)]
        self.check(Board(1, terms), (0,), None, [])
        self.check(Board(2, [("wish", 1, 1, 1, 1)] + terms[1:]), (0, 0), (1, [1], 1), [(1, [1])])

    def test_all_groups_of_eight_dials(self):
        terms = [("wish", 7, 3, 3, 30)]
        step, found = best_step(Board(8, terms), (0,) * 8), best_steps(Board(8, terms), (0,) * 8)
        self.assertEqual(step, (1, [7], 30))
        self.assertEqual(len(found), 128)
        self.assertEqual([found[0], found[1], found[-1]], [(1, list(range(8))), (1, [0, 1, 2, 3, 4, 5, 7]), (1, [7])])


class AllGroups(unittest.TestCase):
    def check(self, size, terms, standing):
        """Check both functions against a look at all steps."""
        board = Board(size, terms)
        most, steps = best_of_all(terms, standing)
        self.assertEqual(best_steps(board, standing), steps, (board, standing))
        step = best_step(board, standing)
        self.assertEqual(step, beat_of(terms, standing), (board, standing))
        for way, group in steps:
            if way == step[0]:
                self.assertLessEqual({*step[1]}, {*group})
        self.assertEqual(board, Board(size, terms))

    def test_small_boards(self):
        chance = random.Random(40)
        for at in range(800):
            size = at % 4 + 1
            terms, inner = terms_made(chance, size, chance.randint(0, 24), chance.choice([1, 3, 9]))
            for standing in standings_near(chance, terms, inner, 2, 9):
                self.check(size, terms, standing)

    def test_boards_of_one_force(self):
        chance = random.Random(41)
        for at in range(200):
            size = at % 5 + 1
            terms, inner = terms_made(chance, size, chance.randint(1, 9), 2)
            terms = [term[:-1] + (1,) if term[0] in FORCED else term for term in terms]
            for standing in standings_near(chance, terms, inner, 2, 4):
                self.check(size, terms, standing)

    def test_great_boards(self):
        chance = random.Random(42)
        for at in range(160):
            size = at % 4 + 5
            middle, words = chance.choice([0, MOST - 9, 9 - MOST]), chance.choice([WORDS, WORDS + FORCED * 3])
            terms, inner = terms_made(chance, size, chance.choice([8, 16, 24]), chance.choice([2, 9]), middle, words)
            for standing in standings_near(chance, terms, inner, 2, 9):
                self.check(size, terms, standing)

    def test_far_outside(self):
        chance = random.Random(43)
        for at in range(24):
            size = at % 8 + 1
            terms, _ = terms_made(chance, size, 12, 5, words=FORCED)
            self.check(size, terms, tuple(chance.choice([1, -1, 3]) * 10 ** 39 for _ in range(size)))


class Lists(unittest.TestCase):
    def test_lists_belong_to_the_caller(self):
        board = Board(3, [("wish", 0, 9, 9, 1), ("wish", 1, -9, -9, 1)])
        before = best_steps(board, (0, 0, 0))
        for way, group in best_steps(board, (0, 0, 0)):
            group.append(7)
        found = best_steps(board, (0, 0, 0))
        found[0][1].clear()
        self.assertEqual([group for _, group in found[1:]], [group for _, group in before[1:]])
        found.clear()
        _, group, _ = best_step(board, (0, 0, 0))
        group.append(5)
        self.assertEqual(best_steps(board, (0, 0, 0)), before)
        self.assertEqual(best_step(board, (0, 0, 0)), (1, [0], 1))
        self.assertEqual(before, [(1, [0]), (1, [0, 2]), (-1, [1]), (-1, [1, 2])])

    def test_kinds(self):
        board = Board(2, [("wish", 0, 9, 9, 1)])
        step, steps = best_step(board, (0, 0)), best_steps(board, (0, 0))
        self.assertEqual([type(step), *map(type, step)], [tuple, int, list, int])
        self.assertEqual([type(steps), type(steps[0]), *map(type, steps[0])], [list, tuple, int, list])


if __name__ == "__main__":
    unittest.main()
