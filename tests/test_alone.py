"""Point 87, with 80 and 12: where the least strain of a board changes its slope, seen from one dial."""

import random
import unittest

from mostpulled.alone import corners
from mostpulled.boards import Board
from mostpulled.errors import HasStop, TooMany
from mostpulled.holding import forces, least_at
from things import FORCED, MOST, box, great_offsets, put_off, raised, small_boards, strain, terms_made


class Example(unittest.TestCase):
    def test_point_87(self):
        board = Board(2, [('wish', 0, 0, 0, 1), ('wish', 1, 10, 10, 1), ('tie', 0, 1, 0, 0, 3)])
        self.assertEqual(corners(board, 0), [(0, 2), (10, 2)])


def plain_corners(size, terms, dial, span):
    """Return the corners by the least strains in a box, for terms with ends from -span to span.

    All corners are from -reach to reach, and the other dials go as far as ties can pull them from there.
    """
    reach = span * size
    least = {}
    for rest in box(size - 1, reach + 1 + span * (size - 1)):
        for setting in range(-reach - 1, reach + 2):
            strained = strain(terms, rest[:dial] + (setting,) + rest[dial:])
            least[setting] = min(strained, least.get(setting, strained))
    weights = [(place, least[place - 1] + least[place + 1] - 2 * least[place]) for place in range(-reach, reach + 1)]
    return [(place, weight) for place, weight in weights if weight != 0]


class Corners(unittest.TestCase):
    def check(self, size, terms, dial, wanted):
        """Check the corners of a board."""
        board = Board(size, terms)
        found = corners(board, dial)
        self.assertEqual(found, wanted, (board, dial))
        self.assertEqual([type(found), board], [list, Board(size, terms)])
        self.assertEqual({type(row) for row in found} - {tuple}, set())
        found.append(None)
        self.assertEqual(corners(board, dial), wanted)

    def test_boards_of_one_and_two_dials(self):
        for size, terms in small_boards(870, 160, 2, FORCED):
            for dial in range(size):
                self.check(size, terms, dial, plain_corners(size, terms, dial, 2))

    def test_boards_of_three_dials(self):
        for size, terms in small_boards(871, 42, 3, FORCED)[2::3]:
            for dial in range(size):
                self.check(size, terms, dial, plain_corners(size, terms, dial, 2))

    def test_boards_of_four_dials(self):
        chance = random.Random(872)
        for at in range(4):
            terms = []
            for _ in range([5, 9, 12, 24][at]):
                word = chance.choice(FORCED)
                low, high = sorted([chance.randint(-1, 1), chance.randint(-1, 1)])
                dials = chance.sample(range(4), 1 if word == "wish" else 2)
                terms.append((word, *dials, low, high, chance.randint(1, 4)))
            self.check(4, terms, at % 4, plain_corners(4, terms, at % 4, 1))

    def test_each_dial_in_turn_and_great_ends(self):
        chance = random.Random(873)
        for size, terms in small_boards(874, 36, 3, FORCED):
            offsets = great_offsets(chance, size)
            for dial in range(size):
                wanted = plain_corners(size, terms, dial, 2)
                self.check(size, put_off(terms, offsets), dial,
                           [(place + offsets[dial], weight) for place, weight in wanted])

    def test_given_boards(self):
        tie = ("tie", 0, 1, 0, 0, 2)
        for size, terms, dial, wanted in [
                (1, [], 0, []), (4, [], 3, []), (1, [("wish", 0, -3, 5, 7)], 0, [(-3, 7), (5, 7)]),
                (1, [("wish", 0, 4, 4, 7)], 0, [(4, 14)]), (2, [("wish", 0, 4, 4, 7)], 1, []),
                (1, [("wish", 0, 0, 4, 1), ("wish", 0, 4, 9, 2)], 0, [(0, 1), (4, 3), (9, 2)]),
                (2, [tie], 0, []), (2, [tie], 1, []), (2, [tie, ("wish", 1, 3, 3, 5)], 0, [(3, 4)]),
                (2, [tie, ("wish", 1, 3, 3, 5)], 1, [(3, 10)]), (2, [tie, ("wish", 1, 3, 3, 1)], 0, [(3, 2)]),
                (2, [("tie", 1, 0, 2, 6, 2), ("wish", 1, 3, 9, 5)], 0, [(-3, 2), (7, 2)]),
                (1, [("wish", 0, -MOST, MOST, 30)] * 24, 0, [(-MOST, 720), (MOST, 720)]),
                (4, [("tie", 0, 1, MOST, MOST, 3), ("tie", 2, 1, -MOST, -MOST, 2), ("tie", 3, 2, -MOST, -MOST, 9),
                     ("wish", 3, -MOST, MOST, 5)], 0, [(2 * MOST, 2), (4 * MOST, 2)])]:
            with self.subTest(terms, dial=dial):
                self.check(size, terms, dial, wanted)

    def test_great_boards(self):
        chance = random.Random(875)
        many = 0
        for at in range(40):
            size, span = at % 4 + 1, chance.choice([9, 1000, 10 ** 17, MOST])
            terms, _ = terms_made(chance, size, chance.choice([8, 24, 24]), span, words=FORCED)
            board, dial = Board(size, terms), chance.randrange(size)
            found = corners(board, dial)
            many += len(found)
            self.assertEqual(found, sorted(found))
            slope = forces(board, dial, -10 ** 21)[0]
            for (place, weight), behind in zip(found, [place for place, _ in found[1:]] + [10 ** 21]):
                self.assertEqual(forces(board, dial, place), (slope, slope + weight))
                self.assertGreater(weight, 0)
                slope += weight
                # The least strain is straight up to the next corner.
                rise = least_at(board, dial, behind) - least_at(board, dial, place)
                self.assertEqual(rise, slope * (behind - place))
            self.assertEqual(forces(board, dial, 10 ** 21), (slope, slope))
        self.assertGreater(many, 300)


class Errors(unittest.TestCase):
    def test_stops_then_size(self):
        wish, tie, stop, bar = ("wish", 0, 0, 0, 1), ("tie", 0, 1, 0, 0, 1), ("stop", 0, 0, 9), ("bar", 0, 1, 0, 9)
        for size in (2, 4, 5, 8):
            for terms, at in [([stop], 0), ([wish, bar], 1), ([wish, tie, bar, stop], 2), ([tie, stop, bar], 1),
                              ([wish] * 23 + [stop], 23), ([stop, ("stop", 0, 20, 30)], 0)]:
                for dial in range(size):
                    self.assertEqual(raised(lambda: corners(Board(size, terms), dial)), (HasStop, at))
        for size in (5, 6, 8):
            for terms in ([], [wish], [wish, tie]):
                self.assertEqual(raised(lambda: corners(Board(size, terms), size - 1)), (TooMany, 4))
        self.assertIsNone(raised(lambda: corners(Board(4, [wish, tie]), 3)))


if __name__ == "__main__":
    unittest.main()
