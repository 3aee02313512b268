"""Points 41 and 42: balanced pulls, their worth, and pulls that fit."""

import random
import unittest

from mostpulled.balance import are_pulls, is_balanced, pulls, worth
from mostpulled.beats import rest
from mostpulled.boards import Board
from mostpulled.steps import best_step
from things import (
    FORCED, MOST, WORDS, Plain, all_fit, balanced, best_in_box, box, nested, odd_things, standings_near, strain,
    terms_made,
)
from things import worth as plain_worth

BOARD = Board(2, [('wish', 0, 0, 0, 1), ('wish', 1, 10, 10, 1), ('tie', 0, 1, 0, 0, 3)])


class Examples(unittest.TestCase):
    def test_point_41(self):
        found = [is_balanced(BOARD, [-1, 1, 1]), is_balanced(BOARD, [-1, 1, -1]), worth(BOARD, [-1, 1, 1])]
        self.assertEqual(found, [True, False, 10])

    def test_point_42(self):
        found = [pulls(BOARD, (4, 4)), pulls(BOARD, (0, 10)), are_pulls(BOARD, (5, 6), [-1, 1, 1])]
        self.assertEqual(found, [[-1, 1, 1], None, False])


def shaken(chance, found):
    """Return changed copies of a list of pulls, most of them not balanced."""
    changed = [list(found), found[:-1], found + [0], [*found, None], found[::-1], [-pull for pull in found],
               [2 * pull for pull in found], [0] * len(found), tuple(found), [found],
               {at: 0 for at in range(len(found))}]
    for at in range(len(found)):
        for thing in [found[at] + 1, found[at] - 1, -found[at], found[at] + chance.randint(-60, 60), None, True, False,
                      str(found[at]), [found[at]], (found[at],), 10 ** 39, -31, 31]:
            changed.append(found[:at] + [thing] + found[at + 1:])
    for _ in range(len(found)):
        one, two, by = chance.randrange(len(found)), chance.randrange(len(found)), chance.choice([1, -1, 2])
        for sign in (1, -1):
            both = list(found)
            both[one] += by
            both[two] += sign * by
            changed.append(both)
    return changed


class Balanced(unittest.TestCase):
    def check(self, board, thing, wanted):
        before = repr(thing)
        with self.subTest(repr(board)[:200], thing=before[:80]):
            self.assertIs(is_balanced(board, thing), wanted)
            self.assertEqual(repr(thing), before)

    def test_given_pulls(self):
        for thing in [[0, 0, 0], [-1, 1, 1], [1, -1, -1]]:
            self.check(BOARD, thing, True)
        for thing in [[-1, 1, -1], [1, -1, 0], [0, 0, 1], [1, 1, 1], [2, -2, -2], [-2, 2, 2], [-1, 1, 2], [-1, 0, 1],
                      [0, 1, 1], [-1, 1], [-1, 1, 1, 0], [0, 0], [0, 0, 0, 0], [], [-1], (-1, 1, 1), (0, 0, 0),
                      [-1, True, 1], [-1, 1, True], [False, False, False], [0, 0, False], [None] * 3, ["0"] * 3,
                      [[-1, 1, 1]], [[0]] * 3, {0: 0, 1: 0, 2: 0}, "000", b"000", None, 0, [0, 0, None]]:
            self.check(BOARD, thing, False)

    def test_up_to_the_force(self):
        board = Board(2, [("wish", 0, 0, 0, 4), ("tie", 0, 1, 0, 0, 30), ("wish", 1, 0, 0, 30)])
        for pull in range(-40, 41):
            self.check(board, [-pull, pull, pull], -4 <= pull <= 4)
        board = Board(2, [("tie", 1, 0, 0, 0, 7), ("tie", 0, 1, 0, 0, 30)])
        for pull in range(-40, 41):
            self.check(board, [pull, pull], -7 <= pull <= 7)

    def test_stops_and_bars_have_no_greatest_pull(self):
        board = Board(2, [("stop", 0, 0, 5), ("bar", 0, 1, 0, 5), ("stop", 1, 0, 5)])
        for pull in (0, 1, -1, 31, -31, 10 ** 39, -10 ** 39):
            self.check(board, [-pull, pull, pull], True)
            self.check(board, [-pull, pull, pull + 1], False)
            self.check(board, [pull + 1, pull, pull], False)

    def test_sums_that_differ_at_one_dial(self):
        board = Board(3, [("tie", 0, 1, 0, 0, 5), ("tie", 1, 2, 0, 0, 5), ("tie", 2, 0, 0, 0, 5), ("wish", 2, 0, 0, 5)])
        self.check(board, [2, 2, 2, 0], True)
        self.check(board, [2, 2, 2, 1], False)
        self.check(board, [2, 2, 3, 0], False)
        self.check(board, [2, 3, 2, 0], False)
        self.check(board, [3, 2, 2, 0], False)

    def test_no_terms(self):
        self.check(Board.free(3), [], True)
        for thing in [[0], (), {}, None, "", [[]]]:
            self.check(Board.free(3), thing, False)

    def test_odd_things(self):
        for thing in [*odd_things(), [None, None, None], ["a", "b", "c"], [Plain(), 0, 0], nested(6, list, 0)]:
            self.check(BOARD, thing, False)
            self.check(BOARD, [thing, 0, 0], False)
            self.check(BOARD, [0, 0, thing], False)
            if type(thing) is not list or thing:
                self.check(Board.free(2), thing, False)
            self.check(Board(1, [("stop", 0, 0, 0)]), [thing], False)

    def test_against_the_definition(self):
        chance = random.Random(410)
        for at in range(80):
            size = at % 8 + 1
            terms, inner = terms_made(chance, size, chance.randint(1, 24), 4)
            board = Board(size, terms)
            _, standing = rest(board, inner)
            for thing in shaken(chance, pulls(board, standing)):
                self.assertIs(is_balanced(board, thing), balanced(size, terms, thing), (board, thing))


class Worth(unittest.TestCase):
    def test_given_pulls(self):
        board = Board(2, [("wish", 0, 2, 5, 9), ("tie", 0, 1, -3, 4, 9), ("stop", 1, -7, 11), ("bar", 1, 0, -1, 0)])
        wanted = [([0, 0, 0, 0], 0), ([1, 0, 0, 0], 2), ([-1, 0, 0, 0], -5), ([0, 3, 0, 0], -9), ([0, -3, 0, 0], -12),
                  ([0, 0, 100, 0], -700), ([0, 0, -100, 0], -1100), ([0, 0, 0, 6], -6), ([0, 0, 0, -6], 0),
                  ([1, 3, -100, 6], -1113), ([-1, -3, 100, -6], -717)]
        for thing, found in wanted:
            with self.subTest(thing):
                self.assertEqual(worth(board, thing), found)

    def test_great_values(self):
        board = Board(1, [("wish", 0, MOST, MOST, 30), ("stop", 0, -MOST, MOST)])
        self.assertEqual(worth(board, [30, -10 ** 39]), 30 * MOST - 10 ** 57)
        self.assertEqual(worth(board, [-30, 10 ** 39]), -30 * MOST - 10 ** 57)

    def test_against_the_definition(self):
        chance = random.Random(411)
        for at in range(100):
            size = at % 8 + 1
            terms, _ = terms_made(chance, size, chance.randint(0, 24), 9, chance.choice([0, MOST - 9]))
            thing = [chance.randint(-30, 30) for _ in terms]
            before = list(thing)
            self.assertEqual(worth(Board(size, terms), thing), plain_worth(terms, thing))
            self.assertEqual(thing, before)

    def test_at_most_the_strain_of_any_standing(self):
        chance = random.Random(412)
        for at in range(80):
            size = at % 8 + 1
            terms, inner = terms_made(chance, size, chance.randint(0, 24), 4)
            board = Board(size, terms)
            _, standing = rest(board, inner)
            found = pulls(board, standing)
            self.assertEqual(worth(board, found), board.strain(standing))
            for other in standings_near(chance, terms, inner, 3, 20):
                self.assertGreaterEqual(board.strain(other), worth(board, found))


class Pulls(unittest.TestCase):
    def check(self, size, terms, standing):
        """Check the pulls at a standing at rest, or that there are none at another one."""
        board = Board(size, terms)
        found = pulls(board, standing)
        if best_step(board, standing) is not None:
            self.assertIsNone(found, (board, standing))
            return
        self.assertTrue(balanced(size, terms, found), (board, standing, found))
        self.assertTrue(all_fit(terms, found, standing), (board, standing, found))
        self.assertIs(are_pulls(board, standing, found), True)
        self.assertEqual(pulls(board, standing), found)
        found.append(0)
        self.assertEqual(pulls(board, standing), found[:-1])
        self.assertEqual(board, Board(size, terms))

    def test_small_boards_in_a_box(self):
        chance = random.Random(420)
        for at in range(120):
            size = at % 3 + 1
            terms, inner = terms_made(chance, size, chance.randint(0, 9), 2)
            _, best = best_in_box(terms, box(size, 4))
            for standing in [inner, *standings_near(chance, terms, inner, 2, 6), *best[:6]]:
                self.check(size, terms, standing)

    def test_boards_at_rest_and_before(self):
        chance = random.Random(421)
        for at in range(400):
            size, span = at % 8 + 1, chance.choice([1, 3, 9, 10 ** 17])
            middle = chance.choice([0, MOST - span, span - MOST])
            words = chance.choice([WORDS, WORDS + FORCED * 3, FORCED, ("stop", "bar", "wish")])
            terms, inner = terms_made(chance, size, chance.choice([3, 12, 24, 24]), span, middle, words)
            _, standing = rest(Board(size, terms), inner)
            self.check(size, terms, standing)
            for other in standings_near(chance, terms, inner, 2, 3) + standings_near(chance, terms, standing, 1, 3):
                self.check(size, terms, other)

    def test_stops_that_hold(self):
        board = Board(3, [("wish", 0, 9, 9, 30), ("bar", 0, 1, 0, 0), ("bar", 2, 1, -4, 0), ("stop", 2, -5, 5)])
        self.assertEqual(pulls(board, (5, 5, 5)), None)
        self.assertEqual(pulls(board, (9, 9, 5)), [0, 0, 0, 0])
        board = Board(3, [("wish", 0, 99, 99, 30), ("bar", 0, 1, 0, 0), ("bar", 2, 1, -4, 0), ("stop", 2, -5, 5)])
        self.assertEqual(pulls(board, (9, 9, 5)), [30, -30, 30, -30])

    def test_none_and_empty(self):
        self.assertEqual(pulls(Board.free(4), (1, 2, 3, 4)), [])
        self.assertIsNone(pulls(Board(1, [("wish", 0, 0, 0, 1)]), (1,)))


class ArePulls(unittest.TestCase):
    def check(self, board, standing, thing):
        """Check the answer against the definitions."""
        before = repr(thing)
        wanted = balanced(board.size, board.terms(), thing) and all_fit(board.terms(), thing, standing)
        self.assertIs(are_pulls(board, standing, thing), wanted, (board, standing, before[:200]))
        self.assertEqual(repr(thing), before)
        return wanted

    def test_given_pulls(self):
        for standing, thing, wanted in [
                ((4, 4), [-1, 1, 1], True), ((0, 0), [-1, 1, 1], True), ((10, 10), [-1, 1, 1], True),
                ((11, 11), [-1, 1, 1], False), ((-1, -1), [-1, 1, 1], False), ((5, 6), [-1, 1, 1], False),
                ((4, 4), [0, 0, 0], False), ((4, 4), [-1, 1, 0], False), ((4, 4), (-1, 1, 1), False),
                ((4, 4), [-1, 1, True], False), ((4, 4), [-1, 1], False), ((4, 4), [-1, 1, 1, 0], False),
                ((4, 4), None, False), ((4, 4), "[-1, 1, 1]", False), ((4, 4), {0: -1, 1: 1, 2: 1}, False),
                ((4, 4), [[-1, 1, 1]], False)]:
            with self.subTest(standing, thing=thing):
                self.assertIs(are_pulls(BOARD, standing, thing), wanted)

    def test_odd_things(self):
        for thing in odd_things():
            self.assertIs(are_pulls(BOARD, (4, 4), thing), False)
            self.assertIs(are_pulls(BOARD, (0, 10), [thing, 1, 1]), False)

    def test_changed_pulls(self):
        chance = random.Random(422)
        good = 0
        for at in range(120):
            size = at % 8 + 1
            middle = chance.choice([0, MOST - 4])
            terms, inner = terms_made(chance, size, chance.randint(1, 24), 4, middle)
            board = Board(size, terms)
            _, standing = rest(board, inner)
            for thing in shaken(chance, pulls(board, standing)):
                good += self.check(board, standing, thing)
                self.check(board, inner, thing)
        self.assertGreater(good, 200)

    def test_pulls_of_one_best_standing_fit_all_and_no_other(self):
        chance = random.Random(423)
        for at in range(60):
            size = at % 3 + 1
            terms, inner = terms_made(chance, size, chance.randint(1, 9), 2)
            board = Board(size, terms)
            _, standing = rest(board, inner)
            found = pulls(board, standing)
            for other in box(size, 5):
                strained = strain(terms, other)
                if strained is not None:
                    self.assertIs(are_pulls(board, other, found), strained == board.strain(standing))


if __name__ == "__main__":
    unittest.main()
