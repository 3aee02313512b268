"""Points 82, 83 and 11: what follows when the ranges of wishes are moved."""

import random
import unittest

from mostpulled.beats import rest, runs
from mostpulled.boards import Board
from mostpulled.errors import NotAllowed, NotRest, NotWish
from mostpulled.least import is_best
from mostpulled.moving import after, settled
from things import FORCED, MOST, WORDS, beat_of, ends, far, great_boards, left, standings_near, terms_made
from things import after as stepped

BOARD = Board(2, [('wish', 0, 0, 0, 1), ('wish', 1, 10, 10, 1), ('tie', 0, 1, 0, 0, 3)])


class Example(unittest.TestCase):
    def test_point_82(self):
        self.assertEqual([after(BOARD, (0, 0), 0, 4), after(BOARD, (7, 7), 0, 4)], [(4, 1, (4, 4)), (0, 0, (7, 7))])


def moved(terms, at, by):
    """Return the terms with the range of a wish moved."""
    word, dial, low, high, force = terms[at]
    return terms[:at] + [(word, dial, low + by, high + by, force)] + terms[at + 1:]


def beats_to_rest(terms, standing):
    """Return (ways, standing): the way of each beat, and the standing at rest."""
    ways = []
    step = beat_of(terms, standing)
    while step is not None:
        ways.append(step[0])
        standing = stepped(standing, *step[:2])
        step = beat_of(terms, standing)
    return ways, standing


def wishes(terms):
    """Return the indexes of the wishes."""
    return [at for at, term in enumerate(terms) if term[0] == "wish"]


def few_boards(seed, many, span=4, full=10):
    """Return (size, terms, allowed standing) of boards of 1 to 5 dials with a wish."""
    chance = random.Random(seed)
    made = []
    while len(made) < many:
        size = len(made) % 5 + 1
        middle = chance.choice([0, 0, MOST - 60, 60 - MOST])
        words = chance.choice([WORDS, WORDS + FORCED * 2, FORCED])
        terms, inner = terms_made(chance, size, chance.randint(1, full), span, middle, words)
        if wishes(terms):
            made.append((size, terms, chance.choice(standings_near(chance, terms, inner, span, 3))))
    return made


def room(term, by):
    """Return by, less where the moved ends would not be values."""
    low, high = ends(term)
    return max(min(by, MOST - high), -MOST - low)


class After(unittest.TestCase):
    def check(self, size, terms, standing, at, by):
        """Check against beats one by one; return how many there are."""
        board = Board(size, terms)
        ways, end = beats_to_rest(moved(terms, at, by), standing)
        found = after(board, standing, at, by)
        self.assertEqual(found, (len(ways), ways[0] if ways else 0, end), (board, standing, at, by))
        self.assertEqual([type(found), type(found[0]), type(found[1]), type(found[2])], [tuple, int, int, tuple])
        self.assertEqual(set(ways), set() if not ways else {1} if by > 0 else {-1})
        self.assertLessEqual(len(ways), abs(by))
        self.assertEqual([board, standing], [Board(size, terms), tuple(standing)])
        return len(ways)

    def test_against_beats_one_by_one(self):
        chance = random.Random(820)
        counts = []
        for size, terms, standing in few_boards(821, 150):
            _, best = rest(Board(size, terms), standing)
            for by in (0, 1, -1, chance.randint(2, 9), chance.randint(-9, -2), chance.choice([-40, 40])):
                at = chance.choice(wishes(terms))
                counts.append(self.check(size, terms, best, at, room(terms[at], by)))
        self.assertGreater(counts.count(0), 100)
        self.assertGreater(counts.count(1), 30)
        self.assertGreater(len([count for count in counts if count > 9]), 20)

    def test_other_best_standings(self):
        for standing in [(setting, setting) for setting in range(11)]:
            for at in (0, 1):
                for by in range(-12, 13):
                    self.check(2, BOARD.terms(), standing, at, by)

    def test_eight_dials(self):
        chance = random.Random(822)
        for _ in range(6):
            terms, inner = terms_made(chance, 8, 24, 4, words=WORDS + FORCED * 2)
            if wishes(terms):
                _, best = rest(Board(8, terms), inner)
                self.check(8, terms, best, chance.choice(wishes(terms)), chance.choice([-6, -1, 1, 6]))

    def test_great_moves(self):
        chance = random.Random(823)
        beats = 0
        for size, terms, inner in great_boards(824, 160):
            board = Board(size, terms)
            if not wishes(terms):
                continue
            _, best = rest(board, inner)
            at = chance.choice(wishes(terms))
            for by in (chance.randint(-MOST, MOST), 2 * MOST, -2 * MOST, chance.randint(-99, 99)):
                by = room(terms[at], by)
                behind = Board(size, moved(terms, at, by))
                found = after(board, best, at, by)
                many, end = rest(behind, best)
                ways = {way for way, _, _ in runs(behind, best)}
                self.assertEqual(found, (many, max(ways, default=0), end))
                self.assertLessEqual(ways, {1} if by > 0 else {-1})
                self.assertLessEqual(many, abs(by))
                self.assertIs(is_best(behind, end), True)
                self.assertEqual(many, far(best, end))
                beats += many > 0
        self.assertGreater(beats, 60)

    def test_given_moves(self):
        board = Board(1, [("wish", 0, 0, 3, 2), ("wish", 0, 0, 0, 1), ("stop", 0, -5, 20)])
        for by, wanted in [(0, (0, 0, (0,))), (-3, (0, 0, (0,))), (-4, (1, -1, (-1,))), (5, (5, 1, (5,))),
                           (-9, (5, -1, (-5,))), (30, (20, 1, (20,))), (MOST - 3, (20, 1, (20,))),
                           (-MOST, (5, -1, (-5,)))]:
            with self.subTest(by):
                self.assertEqual(after(board, (0,), 0, by), wanted)
        self.assertEqual(after(board, (0,), 1, 10 ** 17), (3, 1, (3,)))
        free = Board(1, [("wish", 0, -MOST, -MOST, 1)])
        self.assertEqual(after(free, (-MOST,), 0, 2 * MOST), (2 * MOST, 1, (MOST,)))

    def check_error(self, call, wanted, at=None):
        """Check that a call raises an error of just this class."""
        with self.assertRaises(wanted) as caught:
            call()
        self.assertIs(type(caught.exception), wanted)
        if at is not None:
            self.assertEqual(caught.exception.at, at)

    def test_errors_in_their_order(self):
        board = Board(2, [("tie", 0, 1, 0, 0, 1), ("wish", 0, 3, 3, 2), ("bar", 0, 1, -2, 2), ("stop", 0, -9, 9),
                          ("stop", 1, -9, 9)])
        for at in range(5):
            for by in (0, 1, -7):
                for standing, broken in [((3, 6), 2), ((10, 10), 3), ((9, 10), 4), ((0, 20), 2), ((10 ** 39, 0), 2)]:
                    self.check_error(lambda: after(board, standing, at, by), NotAllowed, broken)
                for standing in [(3, 2), (2, 2), (3, 4), (9, 9), (-9, -9)]:
                    self.check_error(lambda: after(board, standing, at, by), NotRest)
                if at != 1:
                    self.check_error(lambda: after(board, (3, 3), at, by), NotWish, at)
        self.assertEqual(after(board, (3, 3), 1, 1), (1, 1, (4, 4)))

    def test_no_standing_is_allowed(self):
        board = Board(1, [("wish", 0, 0, 0, 1), ("stop", 0, 0, 1), ("stop", 0, 2, 3)])
        for standing, broken in [((0,), 2), ((2,), 1), ((5,), 1)]:
            for at in range(3):
                self.check_error(lambda: after(board, standing, at, 1), NotAllowed, broken)
                self.check_error(lambda: settled(board, standing, [(at, 1)]), NotAllowed, broken)
                self.check_error(lambda: settled(board, standing, []), NotAllowed, broken)

    def test_same_each_time(self):
        for _ in range(3):
            self.assertEqual([after(BOARD, (0, 0), 0, 4), after(BOARD, (10, 10), 1, -4)],
                             [(4, 1, (4, 4)), (4, -1, (6, 6))])
            self.assertEqual(BOARD, Board(2, [('wish', 0, 0, 0, 1), ('wish', 1, 10, 10, 1), ('tie', 0, 1, 0, 0, 3)]))


class Settled(unittest.TestCase):
    def check(self, size, terms, standing, moves):
        """Check against beats one by one, behind each move."""
        board, before = Board(size, terms), list(moves)
        found = settled(board, standing, moves)
        self.assertEqual([board, moves], [Board(size, terms), before])
        self.assertEqual([type(found), len(found)], [list, len(moves)])
        place = standing
        for index, (at, by) in enumerate(moves):
            terms = moved(terms, at, by)
            ways, place = beats_to_rest(terms, place)
            self.assertEqual(found[index], (len(ways), place), (board, standing, moves, index))
            self.assertEqual([type(found[index]), type(found[index][0])], [tuple, int])
            if index > 0:
                self.assertLessEqual(len(ways), abs(by))

    def moves_of(self, chance, terms, many, most, same):
        """Return so many moves of wishes that keep the ends values."""
        moves = []
        at = chance.choice(wishes(terms))
        for _ in range(many):
            at = at if same else chance.choice(wishes(terms))
            by = room(terms[at], chance.choice([0, 1, -1, chance.randint(-most, most)]))
            moves.append((at, by))
            terms = moved(terms, at, by)
        return moves

    def test_against_beats_one_by_one(self):
        chance = random.Random(830)
        for size, terms, standing in few_boards(831, 100):
            many = chance.choice([0, 1, 2, 5, 24])
            self.check(size, terms, standing, self.moves_of(chance, terms, many, 9, chance.random() < 0.4))
            _, best = rest(Board(size, terms), standing)
            self.check(size, terms, best, self.moves_of(chance, terms, many, 9, chance.random() < 0.4))

    def test_great_moves(self):
        chance = random.Random(832)
        for size, terms, inner in great_boards(833, 60):
            board = Board(size, terms)
            if not wishes(terms):
                continue
            moves = self.moves_of(chance, terms, chance.choice([1, 4, 24]), MOST, False)
            found = settled(board, inner, moves)
            place = inner
            for index, ((at, by), (beats, standing)) in enumerate(zip(moves, found)):
                terms = moved(terms, at, by)
                self.assertEqual(rest(Board(size, terms), place), (beats, standing))
                self.assertTrue(index == 0 or beats <= abs(by))
                place = standing

    def test_no_moves(self):
        self.assertEqual([settled(BOARD, (0, 10), []), settled(Board.free(1), (7,), [])], [[], []])

    def test_given_moves(self):
        self.assertEqual(settled(BOARD, (0, 10), [(0, 0)]), [(10, (10, 10))])
        self.assertEqual(settled(BOARD, (0, 0), [(0, 4), (0, -4), (1, -12)]),
                         [(4, (4, 4)), (0, (4, 4)), (4, (0, 0))])
        self.assertEqual(settled(BOARD, (10, 10), [(1, -1)] * 24),
                         [(1, (10 - by, 10 - by)) for by in range(1, 11)] + [(0, (0, 0))] * 14)
        free = Board(1, [("wish", 0, -MOST, -MOST, 1)])
        self.assertEqual(settled(free, (5,), [(0, 2 * MOST), (0, -2 * MOST), (0, 1)]),
                         [(MOST - 5, (MOST,)), (2 * MOST, (-MOST,)), (1, (1 - MOST,))])

    def test_errors_in_their_order(self):
        board = Board(2, [("tie", 0, 1, 0, 0, 1), ("wish", 0, 3, 3, 2), ("bar", 0, 1, -2, 2), ("stop", 0, -9, 9)])
        cases = [([(0, 1)], 0), ([(1, 1), (2, 0)], 2), ([(1, 1)] * 23 + [(3, 1)], 3), ([(3, 5), (0, 1), (2, 1)], 3),
                 ([(1, 2), (2, 0), (0, 0), (3, 3)], 2)]
        for moves, at in cases:
            before = list(moves)
            for standing in [(3, 3), (0, 0), (9, 9)]:
                with self.assertRaises(NotWish) as caught:
                    settled(board, standing, moves)
                self.assertEqual([type(caught.exception), caught.exception.at, moves], [NotWish, at, before])
            for standing in [(0, 5), (11, 8)]:
                with self.assertRaises(NotAllowed) as caught:
                    settled(board, standing, moves)
                self.assertEqual([type(caught.exception), caught.exception.at],
                                 [NotAllowed, left(board.terms(), standing)])

    def test_lists_that_were_returned_are_changed(self):
        moves = [(0, 4), (1, -3)]
        for _ in range(3):
            found = settled(BOARD, (0, 0), moves)
            self.assertEqual([found, moves], [[(4, (4, 4)), (0, (4, 4))], [(0, 4), (1, -3)]])
            found[0] = None
            found.clear()


if __name__ == "__main__":
    unittest.main()
