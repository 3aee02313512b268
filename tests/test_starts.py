"""Points 70 and 8: some allowed standing, or pulls that show that there is none."""

import random
import unittest

from mostpulled.boards import Board
from mostpulled.starts import is_never, some
from things import FORCED, MOST, balanced, box, left, odd_things, terms_made, worth

BOARD = Board(2, [('bar', 0, 1, 2, 5), ('stop', 0, 0, 1), ('stop', 1, 0, 9)])


def shows_never(size, terms, thing):
    """Return whether thing is a list of pulls as in point 8."""
    return (balanced(size, terms, thing) and worth(terms, thing) > 0
            and all(pull == 0 for term, pull in zip(terms, thing) if term[0] in FORCED))


class Example(unittest.TestCase):
    def test_point_70(self):
        board = Board(2, [('bar', 0, 1, 2, 5), ('stop', 0, 0, 1), ('stop', 1, 0, 9)])
        self.assertEqual([some(board)[0], is_never(board, [1, -1, 1]), is_never(board, [2, -2, 2])],
                         ['never', True, True])


class Some(unittest.TestCase):
    def check(self, size, terms):
        """Check what is returned against the definitions; return its word."""
        board = Board(size, terms)
        answer = some(board)
        self.assertEqual([type(answer), len(answer)], [tuple, 2])
        word, found = answer
        if word == "standing":
            self.assertEqual([type(found), len(found)], [tuple, size])
            self.assertEqual({type(setting) for setting in found}, {int})
            self.assertIsNone(left(terms, found), (board, found))
        else:
            self.assertEqual(word, "never")
            self.assertTrue(shows_never(size, terms, found), (board, found))
            self.assertIs(is_never(board, found), True)
            before = list(found)
            found.clear()
            self.assertEqual(some(board), ("never", before))
        self.assertEqual(some(board)[0], word)
        self.assertEqual(board, Board(size, terms))
        return word

    def test_given_boards(self):
        wanted = [
            (1, [], "standing"), (8, [], "standing"), (1, [("stop", 0, 5, 5)], "standing"),
            (1, [("stop", 0, 5, 5), ("stop", 0, 6, 9)], "never"), (1, [("stop", 0, 5, 6), ("stop", 0, 6, 9)],
                                                                   "standing"),
            (2, [("bar", 0, 1, 5, 6), ("bar", 1, 0, -6, -5)], "standing"),
            (2, [("bar", 0, 1, 5, 6), ("bar", 1, 0, 5, 6)], "never"),
            (2, [("bar", 0, 1, 5, 6), ("bar", 1, 0, -4, 4)], "never"),
            (3, [("bar", 0, 1, 1, 1), ("bar", 1, 2, 1, 1), ("bar", 2, 0, -2, -2)], "standing"),
            (3, [("bar", 0, 1, 1, 1), ("bar", 1, 2, 1, 1), ("bar", 2, 0, -1, 9)], "never"),
            (3, [("bar", 0, 1, 1, 1), ("bar", 1, 2, 1, 1), ("bar", 2, 0, -9, -3)], "never"),
            (2, [("wish", 0, 5, 5, 30), ("wish", 0, 6, 6, 30), ("tie", 0, 1, 9, 9, 9)], "standing"),
            (2, [("stop", 0, -MOST, -MOST), ("stop", 1, MOST, MOST), ("bar", 0, 1, -MOST, MOST)], "never"),
            (3, [("stop", 0, -MOST, -MOST), ("stop", 1, MOST, MOST), ("bar", 0, 2, -MOST, MOST),
                 ("bar", 2, 1, -MOST, MOST)], "standing"),
            (3, [("bar", 0, 1, 0, 5), ("stop", 2, 0, 1), ("stop", 2, 3, 4), ("wish", 0, 0, 0, 1)], "never"),
        ]
        for size, terms, word in wanted:
            with self.subTest(size, terms=terms):
                self.assertEqual(self.check(size, terms), word)

    def test_chains_of_all_dials(self):
        for size in range(2, 9):
            for middle in (0, MOST // 2, -MOST):
                chain = [("bar", dial, dial - 1, MOST, MOST) for dial in range(1, size)]
                for stop, word in [(0, "standing"), (1, "never"), (-1, "never")]:
                    far = middle + (size - 1) * MOST + stop
                    terms = [("stop", 0, middle, middle), *chain]
                    if abs(far) <= MOST:
                        self.assertEqual(self.check(size, terms + [("stop", size - 1, far, far)]), word)
                    else:
                        self.assertEqual(self.check(size, terms), "standing")

    def test_small_boards_against_a_box(self):
        chance = random.Random(70)
        words = []
        for at in range(300):
            size = at % 3 + 1
            terms = []
            for _ in range(chance.randint(1, 8)):
                made, _ = terms_made(chance, size, 1, 2, words=("stop", "bar", "bar", "wish"))
                terms += made
            found = [standing for standing in box(size, 6) if left(terms, standing) is None]
            words.append(self.check(size, terms))
            self.assertEqual(words[-1], "standing" if found else "never", terms)
        self.assertGreater(words.count("never"), 50)
        self.assertGreater(words.count("standing"), 50)

    def test_great_boards_that_go_together(self):
        chance = random.Random(71)
        for at in range(300):
            size, span = at % 8 + 1, chance.choice([1, 9, 10 ** 17])
            middle = chance.choice([0, MOST - span, span - MOST])
            terms, _ = terms_made(chance, size, 24, span, middle, ("stop", "bar", "bar",
                                                                   chance.choice(["wish", "bar"])))
            self.assertEqual(self.check(size, terms), "standing")

    def test_great_boards_that_may_contradict_each_other(self):
        chance = random.Random(72)
        words = []
        for at in range(400):
            size, span = at % 8 + 1, chance.choice([1, 9, 10 ** 17])
            middle = chance.choice([0, MOST - span, span - MOST])
            terms, _ = terms_made(chance, size, chance.choice([6, 12, 22]), span, middle,
                                  ("stop", "bar", "bar", "wish"))
            dials = chance.sample(range(size), min(size, 2))
            term = (("bar" if len(dials) == 2 else "stop"), *dials)
            low = chance.choice([-1, 0, 1]) * chance.randint(0, 2 * span)
            terms.insert(chance.randint(0, len(terms)), (*term, low, low))
            words.append(self.check(size, terms))
        self.assertGreater(words.count("never"), 100)
        self.assertGreater(words.count("standing"), 50)


class IsNever(unittest.TestCase):
    def check(self, board, thing):
        """Check the answer against the definitions; return it."""
        before = repr(thing)
        wanted = shows_never(board.size, board.terms(), thing)
        self.assertIs(is_never(board, thing), wanted, (board, before[:200]))
        self.assertEqual(repr(thing), before)
        return wanted

    def test_given_pulls(self):
        for thing in [[1, -1, 1], [2, -2, 2], [10 ** 39, -10 ** 39, 10 ** 39]]:
            self.assertIs(is_never(BOARD, thing), True)
        for thing in [[0, 0, 0], [-1, 1, -1], [1, -1, 0], [1, 1, 1], [1, -1], [1, -1, 1, 0], (1, -1, 1), [True, -1, 1],
                      [1, -1, True], None, "never", ("never", [1, -1, 1]), ["never", [1, -1, 1]], {0: 1}, [], [[]],
                      [None] * 3, ["1", "-1", "1"]]:
            with self.subTest(repr(thing)):
                self.assertIs(is_never(BOARD, thing), False)
        for thing in odd_things():
            self.assertIs(is_never(BOARD, thing), False)
            self.assertIs(is_never(BOARD, [1, thing, 1]), False)
            self.assertIs(is_never(Board.free(3), thing), False)

    def test_pulls_of_wishes_and_ties_are_0(self):
        board = Board(2, [("wish", 0, 5, 5, 9), ("wish", 0, -5, -5, 9), ("stop", 0, 0, 1), ("stop", 0, 3, 4),
                          ("tie", 0, 1, 7, 7, 3), ("bar", 1, 0, 8, 9)])
        self.assertIs(is_never(board, [0, 0, -1, 1, 0, 0]), True)
        for thing in [[1, -1, 0, 0, 0, 0], [1, -1, -1, 1, 0, 0], [1, 0, -2, 1, 0, 0], [0, 0, -1, 1, 1, 1],
                      [0, 0, 0, 0, 1, 1], [0, 0, 1, -1, 0, 0], [0, 0, -1, 0, 0, 0], [0, 0, -1, 2, 0, 0]]:
            with self.subTest(thing):
                self.assertIs(is_never(board, thing), False)

    def test_worth_of_just_0_and_1(self):
        for low, wanted in [(4, False), (5, False), (6, True), (7, True)]:
            board = Board(1, [("stop", 0, 0, 5), ("stop", 0, low, 9)])
            self.assertIs(is_never(board, [-1, 1]), wanted)
            self.assertIs(is_never(board, [1, -1]), False)

    def test_changed_pulls(self):
        chance = random.Random(73)
        good = 0
        for at in range(200):
            size = at % 8 + 1
            terms, _ = terms_made(chance, size, 10, 2, words=("stop", "bar", "wish"))
            terms += terms_made(chance, size, 10, 2, words=("stop", "bar"))[0]
            board = Board(size, terms)
            word, found = some(board)
            if word == "standing":
                found = [0] * len(terms)
            good += self.check(board, [3 * pull for pull in found])
            for at in range(len(found)):
                for thing in (found[at] + 1, found[at] - 1, -found[at], None, True, False, [0]):
                    good += self.check(board, found[:at] + [thing] + found[at + 1:])
            self.check(board, [-pull for pull in found])
            self.check(board, found[:-1])
            self.check(board, found + [0])
            self.check(board, tuple(found))
        self.assertGreater(good, 50)


if __name__ == "__main__":
    unittest.main()
