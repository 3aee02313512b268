"""Points 71 to 73, 6 and 7: the least strain, the ranges of best standings, and chains that show them."""

import random
import unittest

from mostpulled import least
from mostpulled.beats import rest
from mostpulled.boards import Board
from mostpulled.errors import NoneAllowed
from mostpulled.least import bounds, chain, dial_range, gap_range, is_best, is_chain, paper, strain
from things import (
    FORCED, MOST, all_fit, balanced, best_in_box, best_of_all, box, ends, fits, great_boards, is_whole, left,
    odd_things,
    small_boards, standings_near, worth,
)
from things import strain as plain_strain

BOARD = Board(2, [('wish', 0, 0, 0, 1), ('wish', 1, 10, 10, 1), ('tie', 0, 1, 0, 0, 3)])


class Examples(unittest.TestCase):
    def test_point_71(self):
        found = [strain(BOARD), is_best(BOARD, (4, 4)), is_best(BOARD, (5, 6)), paper(BOARD)]
        self.assertEqual(found, [10, True, False, [-1, 1, 1]])

    def test_point_72(self):
        found = [bounds(BOARD), gap_range(BOARD, 0, 1), dial_range(Board.free(1), 0)]
        self.assertEqual(found, [((0, 0), (10, 10)), (0, 0), (None, None)])

    def test_point_73(self):
        self.assertIs(is_chain(BOARD, 0, None, (10, [-1, 1, 1], [(1, 1), (2, 1)])), True)
        self.assertIs(is_chain(BOARD, 0, None, chain(BOARD, 0, None)), True)
        self.assertEqual(chain(BOARD, 0, None)[0], 10)


class Least(unittest.TestCase):
    def test_small_boards_in_a_box(self):
        never = 0
        for size, terms in small_boards(71, 210):
            board, standings = Board(size, terms), box(size, 7)
            least_strain, best = best_in_box(terms, standings)
            if least_strain is None:
                never += 1
                for call in all_calls(board, (0,) * size):
                    self.assertRaises(NoneAllowed, call)
                continue
            self.assertEqual(strain(board), least_strain)
            found = set(best)
            for standing in standings[::7]:
                self.assertIs(is_best(board, standing), standing in found)
            for standing in best[:5]:
                self.assertIs(is_best(board, standing), True)
            held = paper(board)
            self.assertTrue(balanced(size, terms, held))
            self.assertEqual(worth(terms, held), least_strain)
        self.assertGreater(never, 10)

    def test_great_boards(self):
        for size, terms, inner in great_boards(72, 240):
            board = Board(size, terms)
            _, standing = rest(board, inner)
            held = paper(board)
            self.assertEqual(strain(board), plain_strain(terms, standing))
            self.assertTrue(balanced(size, terms, held))
            self.assertEqual(worth(terms, held), strain(board))
            self.assertTrue(all_fit(terms, held, standing))
            self.assertIs(is_best(board, standing), True)
            for other in standings_near(random.Random(7), [], standing, 1, 6):
                wanted = left(terms, other) is None and best_of_all(terms, other) == (0, [])
                self.assertIs(is_best(board, other), wanted)
                self.assertIs(all_fit(terms, held, other) and left(terms, other) is None, wanted)
            again = list(held)
            held.clear()
            self.assertEqual([paper(board), board], [again, Board(size, terms)])

    def test_is_best_of_standings_that_are_not_allowed(self):
        board = Board(2, [("wish", 0, 9, 9, 1), ("stop", 0, 0, 4), ("bar", 0, 1, 0, 0)])
        for standing, wanted in [((4, 4), True), ((5, 5), False), ((9, 9), False), ((4, 3), False), ((3, 3), False),
                                 ((-MOST, 10 ** 39), False), ((10 ** 39, 10 ** 39), False)]:
            with self.subTest(standing):
                self.assertIs(is_best(board, standing), wanted)

    def test_no_terms(self):
        board = Board.free(3)
        self.assertEqual([strain(board), paper(board), bounds(board)], [0, [], (None, None)])
        self.assertEqual([dial_range(board, 1), gap_range(board, 0, 2)], [(None, None), (None, None)])
        self.assertEqual([chain(board, 1, None), chain(board, 0, 2)], [None, None])
        self.assertIs(is_best(board, (5, -MOST, 10 ** 39)), True)


def all_calls(board, standing):
    """Return calls of all functions of mostpulled.least."""
    last = board.size - 1
    calls = [
        lambda: least.strain(board), lambda: least.is_best(board, standing), lambda: least.paper(board),
        lambda: least.dial_range(board, 0), lambda: least.dial_range(board, last), lambda: least.bounds(board),
        lambda: least.chain(board, 0, None), lambda: least.is_chain(board, 0, None, None),
        lambda: least.is_chain(board, 0, None, (0, [0] * len(board), [(0, 1)])),
        lambda: least.is_chain(board, last, None, "chain"),
    ]
    if last > 0:
        calls += [lambda: least.gap_range(board, 0, last), lambda: least.gap_range(board, last, 0),
                  lambda: least.chain(board, 0, last), lambda: least.is_chain(board, last, 0, [])]
    return calls


class NoStanding(unittest.TestCase):
    def test_all_functions(self):
        boards = [
            Board(1, [("stop", 0, 0, 1), ("stop", 0, 2, 3)]), Board(1, [("stop", 0, MOST, MOST),
                    ("stop", 0, 0, MOST - 1)]),
            Board(2, [('bar', 0, 1, 2, 5), ('stop', 0, 0, 1), ('stop', 1, 0, 9)]),
            Board(3, [("wish", 0, 0, 0, 1), ("bar", 0, 1, 1, 1), ("bar", 1, 2, 1, 1), ("bar", 2, 0, -1, 9)]),
            Board(8, [("bar", dial, (dial + 1) % 8, 1, MOST) for dial in range(8)] * 3),
        ]
        for board in boards:
            for standing in [(0,) * board.size, (2,) * board.size]:
                for call in all_calls(board, standing):
                    with self.assertRaises(NoneAllowed) as caught:
                        call()
                    self.assertIs(type(caught.exception), NoneAllowed)


class Ranges(unittest.TestCase):
    def check_range(self, found, values, edge):
        """Check a range against the values in a box; one without an end goes to the edge of the box."""
        self.assertIs(type(found), tuple)
        low, high = found
        self.assertEqual(low is None, high is None)
        if low is None:
            self.assertLessEqual(min(values), -edge)
            self.assertGreaterEqual(max(values), edge)
        else:
            self.assertEqual((low, high), (min(values), max(values)))

    def test_small_boards_in_a_box(self):
        for size, terms in small_boards(74, 210):
            board = Board(size, terms)
            least_strain, best = best_in_box(terms, box(size, 10))
            if least_strain is None:
                continue
            ranges = []
            for dial in range(size):
                values = [standing[dial] for standing in best]
                found = dial_range(board, dial)
                self.check_range(found, values, 6)
                ranges.append(found)
                for other in range(size):
                    if other != dial:
                        gaps = [standing[dial] - standing[other] for standing in best]
                        self.check_range(gap_range(board, dial, other), gaps, 6)
            low, high = tuple(row[0] for row in ranges), tuple(row[1] for row in ranges)
            self.assertEqual(bounds(board), (None if None in low else low, None if None in high else high))

    def check_great(self, size, terms):
        """Check the ranges of a board by standings at their ends that are best, and chains that show no more."""
        board = Board(size, terms)
        strained = strain(board)
        low, high = bounds(board)
        ranges = [dial_range(board, dial) for dial in range(size)]
        self.assertEqual([low is None, high is None], [any(row[at] is None for row in ranges) for at in (0, 1)])
        for standing, at in [(low, 0), (high, 1)]:
            if standing is not None:
                self.assertEqual(standing, tuple(row[at] for row in ranges))
                self.assertEqual(plain_strain(terms, standing), strained)
        for dial in range(size):
            for other in [None, (dial + 1) % size, (dial + 3) % size]:
                if other != dial:
                    self.check_ends(board, dial, other)

    def check_ends(self, board, dial, other):
        """Check a range by best standings at its ends, and just beyond them, and by a chain."""
        low, high = dial_range(board, dial) if other is None else gap_range(board, dial, other)
        found = chain(board, dial, other)
        self.assertEqual([low is None, found is None], [high is None] * 2)
        word = ("stop", dial) if other is None else ("bar", dial, other)
        if low is None:
            for end in (-MOST, 0, MOST):
                self.assertEqual(strain(board.also((*word, end, end))), strain(board))
            return
        self.assertTrue(shows(board, dial, other, found, high))
        for end in (low, high):
            self.assertEqual(strain(board.also((*word, end, end))), strain(board))
        for end in (low - 1, high + 1):
            try:
                self.assertGreater(strain(board.also((*word, end, end))), strain(board))
            except NoneAllowed:
                pass

    def test_great_boards(self):
        for size, terms, _ in great_boards(75, 56):
            self.check_great(size, terms)

    def test_great_ends(self):
        board = Board(2, [("wish", 0, -MOST, MOST, 1), ("tie", 0, 1, -MOST, MOST, 30)])
        self.assertEqual([dial_range(board, 0), dial_range(board, 1)], [(-MOST, MOST), (-2 * MOST, 2 * MOST)])
        self.assertEqual([gap_range(board, 0, 1), gap_range(board, 1, 0)], [(-MOST, MOST)] * 2)
        self.assertEqual(bounds(board), ((-MOST, -2 * MOST), (MOST, 2 * MOST)))
        chained = [("bar", dial, dial - 1, MOST - 1, MOST) for dial in range(1, 8)] + [("stop", 0, 5, MOST)]
        self.assertEqual(dial_range(Board(8, chained), 7), (7 * MOST - 2, 8 * MOST))
        self.assertEqual(gap_range(Board(8, chained), 1, 7), (-6 * MOST, -6 * MOST + 6))

    def test_ends_on_both_sides_or_on_neither(self):
        board = Board(3, [("wish", 0, 2, 5, 1), ("tie", 1, 2, 3, 3, 1)])
        self.assertEqual([dial_range(board, dial) for dial in range(3)], [(2, 5), (None, None), (None, None)])
        self.assertEqual([gap_range(board, 1, 2), gap_range(board, 2, 1)], [(3, 3), (-3, -3)])
        self.assertEqual([gap_range(board, 0, 1), bounds(board)], [(None, None), (None, None)])

    def test_wishes_that_go_apart(self):
        board = Board(1, [("wish", 0, -7, -7, 4), ("wish", 0, 9, 9, 4), ("wish", 0, -3, 20, 1)])
        self.assertEqual([dial_range(board, 0), bounds(board)], [(-3, 9), ((-3,), (9,))])
        self.assertEqual(dial_range(board.also(("stop", 0, 5, 6)), 0), (5, 6))
        self.assertEqual(dial_range(board.also(("stop", 0, 15, 16)), 0), (15, 15))

    def test_same_each_time(self):
        for _ in range(2):
            self.assertEqual([strain(BOARD), paper(BOARD), bounds(BOARD)], [10, [-1, 1, 1], ((0, 0), (10, 10))])
            self.assertEqual(chain(BOARD, 0, None), chain(BOARD, 0, None))


def furthest(term, pull, way):
    """Return the bound of a link: the greatest argument that a pull fits, or minus the least one; None if none."""
    low, high = ends(term)
    # The arguments that a pull fits are a range with one of the ends in it, or both.
    fitting = [end for end in (low, high) if fits(term, pull, end)]
    beyond = 1 if way == 1 else -1
    if term[0] in FORCED and fits(term, pull, (high if way == 1 else low) + beyond):
        return None
    return max(way * end for end in fitting)


def shows(board, dial, other, thing, greatest):
    """Return whether thing is a tuple as point 73 describes, for this greatest value."""
    size, terms = board.size, board.terms()
    if type(thing) is not tuple or len(thing) != 3 or greatest is None:
        return False
    value, held, links = thing
    if not is_whole(value) or value != greatest:
        return False
    if not balanced(size, terms, held) or worth(terms, held) != strain(board):
        return False
    if type(links) is not list or not links:
        return False
    at, total = other, 0
    for link in links:
        if type(link) is not tuple or len(link) != 2 or not all(map(is_whole, link)):
            return False
        index, way = link
        if not 0 <= index < len(terms) or way not in (1, -1):
            return False
        term = terms[index]
        below, above = (term[2] if term[0] in ("tie", "bar") else None), term[1]
        start, end = (below, above) if way == 1 else (above, below)
        bound = furthest(term, held[index], way)
        if start != at or bound is None:
            return False
        at, total = end, total + bound
    return at == dial and total == value


class Chains(unittest.TestCase):
    def check(self, board, dial, other, thing, greatest):
        """Check the answer of is_chain against the definition; return it."""
        before = repr(thing)
        wanted = shows(board, dial, other, thing, greatest)
        self.assertIs(is_chain(board, dial, other, thing), wanted, (board, dial, other, before[:300]))
        self.assertEqual(repr(thing), before)
        return wanted

    def pairs(self, size):
        """Return dials with None and with other dials."""
        return [(dial, other) for dial in range(size) for other in (None, *range(size)) if other != dial]

    def test_all_chains_of_small_boards(self):
        none = 0
        for size, terms in small_boards(76, 150):
            board = Board(size, terms)
            least_strain, best = best_in_box(terms, box(size, 10))
            if least_strain is None:
                continue
            for dial, other in self.pairs(size):
                found = chain(board, dial, other)
                if found is None:
                    none += 1
                    self.assertIsNone((dial_range(board, dial) if other is None else gap_range(board, dial, other))[1])
                    for thing in [None, (0, paper(board), [(0, 1)]), (0, paper(board), [])]:
                        self.assertIs(is_chain(board, dial, other, thing), False)
                    continue
                greatest = max(standing[dial] - (0 if other is None else standing[other]) for standing in best)
                self.assertTrue(self.check(board, dial, other, found, greatest), (board, dial, other, found))
        self.assertGreater(none, 20)

    def test_chains_of_great_boards(self):
        for size, terms, _ in great_boards(77, 80):
            board = Board(size, terms)
            for dial, other in random.Random(size).sample(self.pairs(size), min(6, size)):
                found = chain(board, dial, other)
                if found is not None:
                    high = (dial_range(board, dial) if other is None else gap_range(board, dial, other))[1]
                    self.assertTrue(self.check(board, dial, other, found, high), (board, dial, other, found))
                    again = repr(found)
                    found[1].clear()
                    found[2].clear()
                    self.assertEqual(repr(chain(board, dial, other)), again)

    def changed(self, chance, found):
        """Return a chain changed at one place."""
        value, held, links = found
        at, link = chance.randrange(len(held)), chance.randrange(len(links))
        index, way = links[link]
        pull = chance.choice([held[at] + 1, held[at] - 1, -held[at], True, None, 0, "0", [held[at]]])
        other = chance.choice([
            (index, -way), (index + 1, way), (index - 1, way), (chance.randrange(len(held)), chance.choice([1, -1])),
            (index, True), (True, way), (False, way), [index, way], (index,), (index, way, 1), index, None, (index, 0),
            (index, 2), (index, None), ([index], way), (-1, way), (len(held), way), (10 ** 39, way), "link", ()])
        return chance.choice([
            (value + chance.choice([1, -1, MOST]), held, links), (True, held, links), (None, held, links),
            (str(value), held, links), ([value], held, links), [value, held, links], (value, held),
            (value, links, held),
            (value, held, links, None), (value, tuple(held), links), (value, held, tuple(links)), (value, held, []),
            (value, held, links[:-1]), (value, held, links[1:]), (value, held, links + links[-1:]),
            (value, held, links + [(index, way), (index, -way)]), (value, held, [(index, way), (index, -way)] + links),
            (value, held, links[:link] + [(index, way), (index, -way)] + links[link:]), (value, held, links[::-1]),
            (value, held[:-1], links), (value, held + [0], links), (value, [0] * len(held), links),
            (value, None, links),
            (value, held, None), (value, held, {0: links}), (value, held, [links]), (value, [held], links),
            *[(value, held, links[:link] + [other] + links[link + 1:])] * 8,
            *[(value, held[:at] + [pull] + held[at + 1:], links)] * 4])

    def test_changed_chains(self):
        chance = random.Random(78)
        good = bad = 0
        for size, terms in small_boards(79, 200) + [board[:2] for board in great_boards(80, 60)]:
            board = Board(size, terms)
            if not terms or least.some(board)[0] == "never":
                continue
            dial, other = chance.choice(self.pairs(size))
            found = chain(board, dial, other)
            if found is None:
                continue
            for _ in range(60):
                thing = self.changed(chance, found)
                if chance.random() < 0.3 and shaped(thing):
                    thing = self.changed(chance, thing)
                if self.check(board, dial, other, thing, found[0]):
                    good += 1
                else:
                    bad += 1
        self.assertGreater(good, 100)
        self.assertGreater(bad, 1000)

    def test_other_pulls_of_the_same_worth(self):
        board = Board(1, [("wish", 0, 3, 3, 2), ("wish", 0, 3, 3, 2), ("wish", 0, 0, 9, 1)])
        for thing, wanted in [((3, [0, 0, 0], [(0, 1)]), True), ((3, [0, 0, 0], [(1, 1)]), True),
                              ((3, [1, -1, 0], [(0, 1)]), True), ((3, [2, -2, 0], [(0, 1)]), True),
                              ((3, [2, -2, 0], [(1, 1)]), False), ((3, [-2, 2, 0], [(1, 1)]), True),
                              ((3, [0, 0, 0], [(0, 1), (0, -1), (0, 1)]), True), ((9, [0, 0, 0], [(2, 1)]), False),
                              ((3, [0, 0, 0], [(2, 1)]), False), ((3, [3, -3, 0], [(0, 1)]), False),
                              ((3, [0, 0, 0], [(2, 1), (2, -1), (0, 1)]), False),
                              ((3, [0, 0, 0], [(0, -1)]), False), ((3, [0, 0, 0], []), False)]:
            with self.subTest(thing):
                self.assertIs(is_chain(board, 0, None, thing), wanted)

    def test_value_0_needs_a_link(self):
        board = Board(2, [("tie", 0, 1, 0, 0, 1), ("stop", 0, 0, 0)])
        self.assertIs(is_chain(board, 0, 1, (0, [0, 0], [(0, 1)])), True)
        self.assertIs(is_chain(board, 1, 0, (0, [0, 0], [(0, -1)])), True)
        self.assertIs(is_chain(board, 0, None, (0, [0, 5], [(1, 1)])), False)
        for value in (False, None, "0", [0], (0,)):
            self.assertIs(is_chain(board, 0, 1, (value, [0, 0], [(0, 1)])), False)
        for links in ([], (), None, [(0, 1), (0, -1)], [(1, 1)], [(1, -1)], [(1, -1), (1, 1)]):
            self.assertIs(is_chain(board, 0, 1, (0, [0, 0], links)), False)
        self.assertIs(is_chain(board, 0, 1, (0, [0, 0], [(1, -1), (1, 1), (0, 1)])), False)
        self.assertIs(is_chain(board, 1, 0, (0, [0, 0], [(1, -1), (1, 1), (0, -1)])), True)

    def test_odd_things(self):
        for thing in [None, "chain", "", {}, {0: 10}, [], (), [10, [-1, 1, 1], [(1, 1), (2, 1)]], 10, True,
                      ((10, [-1, 1, 1], [(1, 1), (2, 1)]),), (10, [-1, 1, 1], [[1, 1], [2, 1]]),
                      (10, [-1, 1, 1], ((1, 1), (2, 1))), (10, (-1, 1, 1), [(1, 1), (2, 1)]),
                      (10, [-1, 1, 1], [(1, True), (2, 1)]), (10, [-1, 1, 1], [(True, 1), (2, 1)]),
                      (10, [-1, True, 1], [(1, 1), (2, 1)]), *odd_things()]:
            self.assertIs(is_chain(BOARD, 0, None, thing), False)
            self.assertIs(is_chain(BOARD, 0, 1, thing), False)
        for thing in odd_things():
            self.assertIs(is_chain(BOARD, 0, None, (thing, [-1, 1, 1], [(1, 1), (2, 1)])), False)
            self.assertIs(is_chain(BOARD, 0, None, (10, thing, [(1, 1), (2, 1)])), False)
            self.assertIs(is_chain(BOARD, 0, None, (10, [-1, 1, 1], thing)), False)
            self.assertIs(is_chain(BOARD, 0, None, (10, [-1, 1, 1], [(1, 1), thing])), False)
            self.assertIs(is_chain(BOARD, 0, None, (10, [-1, 1, 1], [(thing, 1), (2, 1)])), False)
            self.assertIs(is_chain(BOARD, 0, None, (10, [-1, 1, thing], [(1, 1), (2, 1)])), False)


def shaped(thing):
    """Return whether thing still has the shape that a change asks for."""
    if type(thing) is not tuple or len(thing) != 3 or not is_whole(thing[0]):
        return False
    _, held, links = thing
    if type(held) is not list or type(links) is not list or not held or not links:
        return False
    return (all(map(is_whole, held))
            and all(type(link) is tuple and len(link) == 2 and all(map(is_whole, link)) for link in links))


if __name__ == "__main__":
    unittest.main()
