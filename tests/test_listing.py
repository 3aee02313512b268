"""Point 74: the first best standing from a standing on, and the list of all best standings."""

import inspect
import random
import unittest

from mostpulled.boards import Board
from mostpulled.errors import NoneAllowed, TooMany
from mostpulled.listing import all_best, first_best
from things import MOST, best_in_box, box, great_boards, great_offsets, put_off, small_boards
from things import strain as plain_strain


class Example(unittest.TestCase):
    def test_point_74(self):
        board = Board(2, [('wish', 0, 0, 0, 1), ('wish', 1, 3, 3, 1), ('tie', 0, 1, 0, 0, 3)])
        self.assertEqual([all_best(board), first_best(board, (1, 5))],
                         [[(0, 0), (1, 1), (2, 2), (3, 3)], (2, 2)])


def moved_by(standing, offsets):
    """Return the standing with each dial moved by its offset."""
    return tuple(setting + offset for setting, offset in zip(standing, offsets))


def listed_boards(seed, many, sizes=3, reach=10):
    """Return (size, terms, best standings in a box, whether these are all), of boards with an allowed standing.

    The ends are at most 2, so that a best standing is beyond 7 only if there are infinitely many.
    """
    made = []
    for size, terms in small_boards(seed, many, sizes):
        least, best = best_in_box(terms, box(size, reach))
        if least is not None:
            made.append((size, terms, best, max(max(map(abs, standing)) for standing in best) <= 7))
    return made


def first_of(best, standing):
    """Return the least best standing of a box that is not less than the standing, None without a least one.

    If there is no least one, the least one in a box is at its edge, and is not in a smaller box.
    """
    behind = [other for other in best if other >= standing]
    found = min(behind, default=None)
    return found if found is not None and max(map(abs, found)) <= 8 else None


class AllBest(unittest.TestCase):
    def check_limits(self, board, best):
        """Check the list with limits around its length."""
        many = len(best)
        for limit in {1, many - 1, many, many + 1, 400} - {0}:
            if many <= limit:
                self.assertEqual(all_best(board, limit=limit), best)
            else:
                self.check_too_many(lambda: all_best(board, limit=limit), limit)
        if many <= 400:
            self.assertEqual(all_best(board), best)
        else:
            self.check_too_many(lambda: all_best(board), 400)

    def check_too_many(self, call, limit):
        """Check that a call raises TooMany(limit)."""
        with self.assertRaises(TooMany) as caught:
            call()
        self.assertIs(type(caught.exception), TooMany)
        self.assertEqual(caught.exception.limit, limit)

    def check(self, size, terms, best, is_all):
        """Check the list of a board."""
        board = Board(size, terms)
        if is_all:
            self.check_limits(board, sorted(best))
            return len(best)
        for limit in (1, 2, 400):
            self.check_too_many(lambda: all_best(board, limit=limit), limit)
        self.check_too_many(lambda: all_best(board), 400)
        return 0

    def test_boards_of_one_to_three_dials(self):
        lengths = [self.check(*row) for row in listed_boards(740, 300)]
        self.assertGreater(lengths.count(0), 50)
        self.assertGreater(lengths.count(1), 20)
        self.assertGreater(len([many for many in lengths if many > 3]), 50)

    def test_boards_of_four_dials(self):
        lengths = []
        chance = random.Random(741)
        for at in range(12):
            terms = [("stop", 0, -1, 1), ("bar", 0, 1, 0, 1), ("tie", 2, 1, -1, 0, 1), ("wish", 3, 0, 1, 2)]
            terms += [row for _, many in small_boards(chance.randint(0, 10 ** 6), 4, 4)[3:] for row in many]
            least, best = best_in_box(terms, box(4, 5))
            if least is not None and max(max(map(abs, standing)) for standing in best) < 5:
                lengths.append(self.check(4, terms, best, True))
        self.assertGreater(len(lengths), 4)

    def test_just_400_and_401(self):
        for high, many in [(398, 399), (399, 400), (400, 401), (10 ** 18, 10 ** 18 + 1)]:
            board = Board(1, [("wish", 0, 0, high, 1)])
            if many <= 400:
                self.assertEqual(all_best(board), [(setting,) for setting in range(many)])
            else:
                self.check_too_many(lambda: all_best(board), 400)
        board = Board(2, [("wish", 0, 1, 20, 1), ("stop", 1, 1, 20)])
        self.assertEqual(all_best(board), [(one, other) for one in range(1, 21) for other in range(1, 21)])
        self.check_too_many(lambda: all_best(board, limit=399), 399)
        board = Board(8, [("wish", dial, 0, 1, 1) for dial in range(8)])
        self.assertEqual(all_best(board), [standing for standing in box(8, 1) if min(standing) >= 0])
        self.check_too_many(lambda: all_best(board, limit=255), 255)
        board = Board(8, [("wish", dial, 0, 2, 1) for dial in range(8)])
        self.check_too_many(lambda: all_best(board), 400)

    def test_infinitely_many(self):
        for terms in ([], [("wish", 0, 3, 3, 1)], [("tie", 0, 1, 3, 3, 1)], [("wish", 1, 3, 3, 1)],
                      [("wish", 0, 0, 0, 3), ("bar", 2, 1, 0, 0)]):
            board = Board(3, terms)
            self.check_too_many(lambda: all_best(board), 400)
            self.check_too_many(lambda: all_best(board, limit=1), 1)

    def test_limit_is_passed_by_keyword(self):
        limit = inspect.signature(all_best).parameters["limit"]
        self.assertEqual([limit.kind, limit.default], [inspect.Parameter.KEYWORD_ONLY, 400])

    def test_great_ends(self):
        chance = random.Random(742)
        for size, terms, best, is_all in listed_boards(743, 120):
            if is_all:
                offsets = great_offsets(chance, size)
                board = Board(size, put_off(terms, offsets))
                wanted = [moved_by(standing, offsets) for standing in sorted(best)]
                self.check_limits(board, wanted)

    def test_great_boards(self):
        counted = 0
        for size, terms, _ in great_boards(744, 80):
            board = Board(size, terms)
            try:
                found = all_best(board)
            except TooMany:
                continue
            counted += len(found)
            self.assertEqual(found, sorted(set(found)))
            self.assertEqual(len({plain_strain(terms, standing) for standing in found}), 1)
            self.assertEqual({type(standing) for standing in found}, {tuple})
            # From just behind each one, the first one is the next one.
            behind = [first_best(board, standing[:-1] + (standing[-1] + 1,)) for standing in found]
            self.assertEqual(behind, found[1:] + [None])
        self.assertGreater(counted, 100)

    def test_lists_that_were_returned_are_changed(self):
        board = Board(2, [("wish", 0, 0, 1, 1), ("wish", 1, 0, 1, 1)])
        for _ in range(3):
            found = all_best(board, limit=4)
            self.assertEqual(found, [(0, 0), (0, 1), (1, 0), (1, 1)])
            found[0] = None
            found.clear()
        self.assertEqual(board, Board(2, [("wish", 0, 0, 1, 1), ("wish", 1, 0, 1, 1)]))


class FirstBest(unittest.TestCase):
    def test_small_boards_in_a_box(self):
        chance = random.Random(745)
        none = found = 0
        for size, terms, best, is_all in listed_boards(746, 300):
            board = Board(size, terms)
            tried = [tuple(chance.randint(-4, 4) for _ in range(size)) for _ in range(8)]
            near = [standing for standing in best if max(map(abs, standing)) <= 4]
            tried += chance.sample(near, min(len(near), 5))
            tried += [standing[:-1] + (standing[-1] + 1,) for standing in tried[-4:]]
            for standing in tried:
                wanted = first_of(best, standing)
                self.assertEqual(first_best(board, standing), wanted, (board, standing))
                none += wanted is None
                found += wanted is not None
        self.assertGreater(none, 300)
        self.assertGreater(found, 1000)

    def test_far_below_and_above(self):
        for size, terms, best, is_all in listed_boards(747, 100):
            if is_all:
                board = Board(size, terms)
                for far in (9, MOST, 10 ** 39):
                    self.assertEqual(first_best(board, (-far,) * size), min(best))
                    self.assertIsNone(first_best(board, (far,) * size))
                    self.assertEqual(first_best(board, min(best)[:-1] + (-far,)), min(best))

    def test_from_each_one_to_the_next(self):
        for size, terms, best, is_all in listed_boards(748, 150):
            board = Board(size, terms)
            if is_all and len(best) <= 60:
                best = sorted(best)
                self.assertEqual([first_best(board, standing) for standing in best], best)
                behind = [first_best(board, standing[:-1] + (standing[-1] + 1,)) for standing in best]
                self.assertEqual(behind, best[1:] + [None])

    def test_great_ends(self):
        chance = random.Random(749)
        for size, terms, best, is_all in listed_boards(750, 100):
            offsets = great_offsets(chance, size)
            board = Board(size, put_off(terms, offsets))
            for _ in range(6):
                standing = tuple(chance.randint(-4, 4) for _ in range(size))
                wanted = first_of(best, standing)
                self.assertEqual(first_best(board, moved_by(standing, offsets)),
                                 None if wanted is None else moved_by(wanted, offsets))

    def test_no_least_one(self):
        board = Board(3, [("wish", 1, 5, 7, 1), ("bar", 2, 0, 0, 4)])
        self.assertEqual(first_best(board, (-8, 6, -6)), (-8, 6, -6))
        self.assertEqual(first_best(board, (-8, 6, -9)), (-8, 6, -8))
        self.assertEqual(first_best(board, (-8, 6, -3)), (-8, 7, -8))
        self.assertEqual(first_best(board, (-8, 7, -3)), (-7, 5, -7))
        self.assertEqual(first_best(board, (MOST, 7, MOST + 5)), (MOST + 1, 5, MOST + 1))
        board = Board(2, [("wish", 0, 5, 7, 1)])
        self.assertEqual(first_best(board, (5, -MOST)), (5, -MOST))
        self.assertEqual(first_best(board, (7, 3)), (7, 3))
        self.assertIsNone(first_best(board, (4, 3)))
        self.assertIsNone(first_best(board, (8, 3)))
        together = Board(3, [("tie", 0, 1, 0, 0, 1), ("wish", 2, 0, 1, 1)])
        self.assertEqual(first_best(together, (3, 3, 2)), (4, 4, 0))
        self.assertEqual(first_best(together, (3, 4, 0)), (4, 4, 0))
        self.assertEqual(first_best(together, (3, 3, -5)), (3, 3, 0))
        self.assertEqual(first_best(Board.free(2), (3, -4)), (3, -4))
        last = Board(2, [("wish", 1, 0, 0, 1)])
        self.assertEqual([first_best(last, (3, 0)), first_best(last, (3, 1))], [(3, 0), (4, 0)])
        first_only = Board(3, [("bar", 0, 1, 0, 0), ("stop", 0, 0, 0)])
        self.assertEqual(first_best(first_only, (0, 0, 9)), (0, 0, 9))
        self.assertIsNone(first_best(first_only, (0, -1, 9)))

    def test_standings_that_are_not_allowed(self):
        board = Board(2, [("wish", 0, 9, 9, 1), ("stop", 0, 0, 4), ("bar", 0, 1, 0, 0)])
        for standing, wanted in [((0, 9), (4, 4)), ((4, 4), (4, 4)), ((4, 5), None), ((5, 5), None), ((-9, -9), (4, 4)),
                                 ((9, -9), None), ((3, 10 ** 39), (4, 4))]:
            self.assertEqual(first_best(board, standing), wanted)

    def test_same_each_time(self):
        board = Board(2, [("wish", 0, 0, 1, 1), ("wish", 1, 0, 1, 1)])
        for _ in range(3):
            self.assertEqual(first_best(board, (0, 2)), (1, 0))


class NoStanding(unittest.TestCase):
    def test_none_allowed(self):
        boards = [Board(1, [("stop", 0, 0, 1), ("stop", 0, 2, 3)]),
                  Board(2, [("wish", 0, 0, 0, 1), ("bar", 0, 1, 2, 5), ("stop", 0, 0, 1), ("stop", 1, 0, 9)])]
        for board in boards:
            for call in [lambda: all_best(board), lambda: all_best(board, limit=1),
                         lambda: first_best(board, (0,) * board.size), lambda: first_best(board, (9,) * board.size)]:
                with self.assertRaises(NoneAllowed) as caught:
                    call()
                self.assertIs(type(caught.exception), NoneAllowed)


if __name__ == "__main__":
    unittest.main()
