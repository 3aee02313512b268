"""Points 85 and 86: the kinks of a board without stops and bars, and whether two boards always gain alike."""

import random
import unittest

from mostpulled.boards import Board
from mostpulled.comparing import kinks, unlike
from mostpulled.errors import HasStop
from mostpulled.kinds import is_standing, is_step
from things import FORCED, MOST, all_steps, box, gain, great_offsets, put_off, small_boards, terms_made


class Example(unittest.TestCase):
    def test_point_85(self):
        found = kinks(Board(2, [('tie', 1, 0, -2, 4, 3), ('wish', 1, 5, 5, 2), ('wish', 1, 5, 8, 1)]))
        self.assertEqual(found, [(0, 1, -4, 3), (0, 1, 2, 3), (1, -1, 5, 5), (1, -1, 8, 1)])


def ranges_of(terms, dial, other):
    """Return the list of (low, high, force) of the wishes of a dial, or of the ties of two, the lesser one first."""
    if other == -1:
        return [term[2:] for term in terms if term[:2] == ("wish", dial)]
    straight = [term[3:] for term in terms if term[:3] == ("tie", dial, other)]
    return straight + [(-high, -low, force) for word, *more in terms if word == "tie"
                       for one, two, low, high, force in [more] if (one, two) == (other, dial)]


def plain_kinks(size, terms):
    """Return the kinks by the words of point 85."""
    found = []
    for dial in range(size):
        for other in [-1, *range(dial + 1, size)]:
            ranges = ranges_of(terms, dial, other)
            for place in {end for low, high, _ in ranges for end in (low, high)}:
                weight = sum(force for low, _, force in ranges if low == place)
                weight += sum(force for _, high, force in ranges if high == place)
                found.append((dial, other, place, weight))
    return sorted(found)


def forced_boards(seed, many, span=3):
    """Return (size, terms) of boards of 1 to 8 dials with up to 24 wishes and ties."""
    chance = random.Random(seed)
    made = []
    for at in range(many):
        size = at % 8 + 1
        middle = chance.choice([0, 0, MOST - span, span - MOST])
        made.append((size, terms_made(chance, size, chance.choice([0, 1, 3, 8, 24]), span, middle, FORCED)[0]))
    return made


def turned(chance, terms):
    """Return terms that always gain like these: in another order, split, and ties turned round."""
    found = []
    for term in terms:
        if term[0] == "tie" and chance.random() < 0.5:
            word, dial, other, low, high, force = term
            term = (word, other, dial, -high, -low, force)
        less = chance.randint(0, term[-1] - 1) if chance.random() < 0.5 else 0
        found += [term[:-1] + (force,) for force in (less, term[-1] - less) if force > 0]
    chance.shuffle(found)
    return found if len(found) <= 24 else terms[::-1]


def changed(chance, size, terms):
    """Return the terms with one of them changed, one less or one more, perhaps only seemingly."""
    at = chance.randrange(len(terms)) if terms else 0
    term = terms[at] if terms else ("wish", 0, 0, 0, 1)
    low, high, force = term[-3:]
    other = chance.choice([
        term[:-3] + (low, high, force % 30 + 1), term[:-3] + (low, low, force),
        term[:-3] + (max(low - 1, -MOST), high, force),
        term[:-3] + (low, min(high + 1, MOST), force), term_of(chance, size)])
    return chance.choice([terms[:at] + terms[at + 1:], terms[:at] + [other] + terms[at + 1:],
                          (terms + [term_of(chance, size)])[-24:]])


def term_of(chance, size):
    """Return a small wish or tie."""
    return terms_made(chance, size, 1, 3, words=FORCED)[0][0]


class HasStops(unittest.TestCase):
    def check(self, call, at):
        """Check that a call raises HasStop(at)."""
        with self.assertRaises(HasStop) as caught:
            call()
        self.assertIs(type(caught.exception), HasStop)
        self.assertEqual(caught.exception.at, at)

    def test_least_index(self):
        wish, tie, stop, bar = ("wish", 0, 0, 0, 1), ("tie", 0, 1, 0, 0, 1), ("stop", 0, 0, 9), ("bar", 0, 1, 0, 9)
        free = Board(2, [wish, tie])
        for terms, at in [([stop], 0), ([bar], 0), ([wish, stop], 1), ([wish, tie, bar, stop], 2),
                          ([tie, stop, bar], 1),
                          ([wish] * 23 + [bar], 23), ([stop, ("stop", 0, 20, 30)], 0)]:
            board = Board(2, terms)
            self.check(lambda: kinks(board), at)
            self.check(lambda: unlike(board, free), at)
            self.check(lambda: unlike(free, board), at)
            self.check(lambda: unlike(board, board), at)
            self.check(lambda: unlike(board, Board(2, [wish, wish, wish, stop])), at)
        self.check(lambda: unlike(Board(2, [wish, wish, bar]), Board(2, [bar])), 2)


class Kinks(unittest.TestCase):
    def test_against_the_definition(self):
        for size, terms in forced_boards(850, 240) + forced_boards(851, 80, 10 ** 17) + forced_boards(852, 80, 1):
            board = Board(size, terms)
            found = kinks(board)
            self.assertEqual(found, plain_kinks(size, terms), board)
            self.assertEqual({type(row) for row in found} - {tuple}, set())
            found.clear()
            self.assertEqual(kinks(board), plain_kinks(size, terms))
            self.assertEqual(board, Board(size, terms))

    def test_given_boards(self):
        for terms, wanted in [
                ([], []), ([("wish", 0, 3, 3, 7)], [(0, -1, 3, 14)]), ([("wish", 2, -3, 3, 7)],
                        [(2, -1, -3, 7), (2, -1, 3, 7)]),
                ([("tie", 2, 0, 1, 5, 2)], [(0, 2, -5, 2), (0, 2, -1, 2)]),
                ([("tie", 0, 2, -5, -1, 2)], [(0, 2, -5, 2), (0, 2, -1, 2)]),
                ([("tie", 2, 0, 1, 5, 2), ("tie", 0, 2, -5, 0, 1)], [(0, 2, -5, 3), (0, 2, -1, 2), (0, 2, 0, 1)]),
                ([("wish", 1, 0, 4, 1), ("wish", 1, 4, 9, 2), ("wish", 1, -1, 0, 5)],
                 [(1, -1, -1, 5), (1, -1, 0, 6), (1, -1, 4, 3), (1, -1, 9, 2)]),
                ([("tie", 1, 2, 0, 0, 30)] * 24, [(1, 2, 0, 1440)]),
                ([("tie", 2, 1, 0, 0, 1), ("wish", 2, 0, 0, 1), ("tie", 1, 0, 0, 0, 1), ("wish", 0, 0, 0, 1)],
                 [(0, -1, 0, 2), (0, 1, 0, 2), (1, 2, 0, 2), (2, -1, 0, 2)]),
                ([("wish", 0, -MOST, MOST, 1), ("tie", 1, 0, -MOST, MOST, 2)],
                 [(0, -1, -MOST, 1), (0, -1, MOST, 1), (0, 1, -MOST, 2), (0, 1, MOST, 2)])]:
            with self.subTest(terms):
                self.assertEqual(kinks(Board(3, terms)), wanted)


class Unlike(unittest.TestCase):
    def check(self, size, terms, others):
        """Check the answer both ways round; return whether the boards gain alike."""
        one, other = Board(size, terms), Board(size, others)
        alike = plain_kinks(size, terms) == plain_kinks(size, others)
        for first, second in [(one, other), (other, one)]:
            found = unlike(first, second)
            if alike:
                self.assertIsNone(found, (first, second))
                continue
            self.assertEqual([type(found), len(found)], [tuple, 3])
            standing, way, group = found
            self.assertTrue(is_standing(standing, size) and is_step((way, group), size), found)
            again = list(group)
            self.assertNotEqual(gain(terms, standing, way, group), gain(others, standing, way, group), (first, second))
            group.clear()
            self.assertEqual(unlike(first, second), (standing, way, again))
        self.assertEqual([one, other], [Board(size, terms), Board(size, others)])
        return alike

    def test_boards_that_gain_alike(self):
        chance = random.Random(860)
        for size, terms in forced_boards(861, 160) + forced_boards(862, 60, 10 ** 17):
            self.assertTrue(self.check(size, terms, terms))
            self.assertTrue(self.check(size, terms, turned(chance, terms)))
        wide = [("wish", 0, 0, 5, 2), ("wish", 0, 5, 9, 2)]
        self.assertTrue(self.check(1, wide, [("wish", 0, 0, 9, 2), ("wish", 0, 5, 5, 2)]))
        self.assertTrue(self.check(1, wide, [("wish", 0, 0, 5, 1), ("wish", 0, 0, 5, 1), ("wish", 0, 9, 9, 1),
                                             ("wish", 0, 5, 5, 1)]))
        self.assertTrue(self.check(2, [("tie", 0, 1, 3, 4, 5)], [("tie", 1, 0, -4, -3, 5)]))

    def test_boards_that_do_not(self):
        chance = random.Random(863)
        alike = []
        for size, terms in forced_boards(864, 400) + forced_boards(865, 160, 10 ** 17) + forced_boards(866, 160, 1):
            others = changed(chance, size, turned(chance, terms))
            alike.append(self.check(size, terms, others))
        self.assertGreater(alike.count(False), 400)
        self.assertGreater(alike.count(True), 5)

    def test_boards_that_have_little_in_common(self):
        # Where terms are few and ends close together, changes of gains at one place may be made up for at another one.
        chance = random.Random(866)
        for at in range(1500):
            size = at % 3 + 1
            one, other = [[self.narrow(chance, size) for _ in range(chance.randint(0, 3))] for _ in range(2)]
            self.check(size, one, other)

    def narrow(self, chance, size):
        """Return a term with ends that are almost always the same, and a force of 1."""
        place = chance.choice([0, 1, 1, 2, -1])
        high = chance.choice([place, place, place + 1])
        if size == 1 or chance.random() < 0.5:
            return ("wish", chance.randrange(size), place, high, 1)
        return ("tie", *chance.sample(range(size), 2), place, high, 1)

    def test_small_boards_by_a_search_over_standings_and_steps(self):
        chance = random.Random(867)
        alike = []
        for size, terms in small_boards(868, 90, 3, FORCED):
            others = chance.choice([turned(chance, terms), changed(chance, size, terms)])
            others = [term for term in others if max(abs(end) for end in term[-3:-1]) <= 3]
            steps = all_steps(size)
            same = all(gain(terms, standing, *step) == gain(others, standing, *step)
                       for standing in box(size, 4 if size == 3 else 8) for step in steps)
            alike.append(self.check(size, terms, others))
            self.assertIs(same, alike[-1], (terms, others))
        self.assertGreater(alike.count(True), 20)
        self.assertGreater(alike.count(False), 20)

    def test_great_ends(self):
        chance = random.Random(869)
        for size, terms in small_boards(870, 120, 4, FORCED):
            offsets = great_offsets(chance, size)
            great = put_off(terms, offsets)
            self.check(size, great, changed(chance, size, great))
            self.check(size, great, put_off(terms, great_offsets(chance, size)))
            self.check(size, great, turned(chance, great))

    def test_given_boards(self):
        wish, tie = ("wish", 0, 0, 0, 1), ("tie", 0, 1, 0, 0, 1)
        for terms, others in [([], [wish]), ([], [tie]), ([wish], [tie]), ([wish], [wish, wish]),
                              ([wish], [("wish", 1, 0, 0, 1)]), ([tie], [("tie", 0, 1, 1, 1, 1)]),
                              ([tie], [("tie", 0, 2, 0, 0, 1)]), ([wish, tie], [wish, ("tie", 1, 0, 0, 1, 1)]),
                              ([("wish", 0, 0, 4, 1)], [("wish", 0, 0, 5, 1)]),
                              ([("tie", 0, 1, 2, 3, 1)], [("tie", 1, 0, 2, 3, 1)]),
                              ([("wish", 0, MOST, MOST, 30)], [("wish", 0, MOST, MOST, 29)]),
                              ([("tie", 0, 1, -MOST, MOST, 1)], [("tie", 0, 1, -MOST, MOST - 1, 1)]),
                              ([("wish", 2, -MOST, MOST, 1), tie], [("wish", 2, 1 - MOST, MOST, 1), tie])]:
            with self.subTest(terms, others=others):
                self.assertFalse(self.check(3, terms, others))
        self.assertTrue(self.check(3, [], []))


if __name__ == "__main__":
    unittest.main()
