"""Points 30 and 4: boards."""

import random
import unittest

from mostpulled.boards import Board
from mostpulled.errors import Wrong
from things import MOST, Stubborn, left, odd_things, standings_near, strain, terms_made

TERMS = [('wish', 0, 0, 0, 1), ('wish', 1, 10, 10, 1), ('tie', 0, 1, 0, 0, 3)]
ALL = [("wish", 0, -1, 4, 2), ("stop", 1, -5, 5), ("tie", 1, 0, 2, 2, 30), ("bar", 0, 1, -3, 3), ("stop", 0, 0, 9)]
REPR = ("Board(2, [('wish', 0, -1, 4, 2), ('stop', 1, -5, 5), ('tie', 1, 0, 2, 2, 30), ('bar', 0, 1, -3, 3), "
        "('stop', 0, 0, 9)])")


class Example(unittest.TestCase):
    def test_point_30(self):
        board = Board(2, [('wish', 0, 0, 0, 1), ('wish', 1, 10, 10, 1), ('tie', 0, 1, 0, 0, 3)])
        found = [len(board), board.size, board.strain((0, 10)), board.strain((4, 4)), board.left((0, 10))]
        self.assertEqual(found, [3, 2, 30, 10, None])


class Asked(unittest.TestCase):
    def test_size_terms_and_length(self):
        for size in range(1, 9):
            for many in (0, 1, 23, 24):
                terms = [("wish", size - 1, 0, at, 1) for at in range(many)]
                board = Board(size, terms)
                with self.subTest(size=size, many=many):
                    self.assertEqual([board.size, board.terms(), len(board)], [size, terms, many])

    def test_same_each_time(self):
        board = Board(2, ALL)
        for _ in range(3):
            self.assertEqual([board.size, board.terms(), len(board), repr(board)], [2, ALL, 5, REPR])
            self.assertEqual([board.left((6, 6)), board.strain((1, 1))], [1, 60])

    def test_repr(self):
        self.assertEqual(repr(Board(2, ALL)), REPR)
        self.assertEqual(repr(Board(8, [])), "Board(8, [])")
        self.assertEqual(repr(Board(1, [("stop", 0, -MOST, MOST)])), f"Board(1, [('stop', 0, {-MOST}, {MOST})])")
        self.assertEqual(eval(repr(Board(2, ALL))), Board(2, ALL))

    def test_equal(self):
        self.assertTrue(Board(2, ALL) == Board(2, list(ALL)))
        self.assertFalse(Board(2, ALL) != Board(2, list(ALL)))
        self.assertTrue(Board.free(3) == Board(3, []))
        others = [Board(3, ALL), Board(2, ALL[::-1]), Board(2, ALL[:-1]), Board(2, ALL + ALL[:1]), Board(2, []),
                  Board(2, [("wish", 0, -1, 4, 3), *ALL[1:]])]
        for other in others:
            with self.subTest(repr(other)):
                self.assertFalse(Board(2, ALL) == other)
                self.assertTrue(Board(2, ALL) != other)

    def test_equal_to_nothing_else(self):
        board = Board(2, ALL)
        for other in [ALL, tuple(ALL), (2, ALL), [2, ALL], None, 2, 5, REPR, {}, Board, *odd_things()]:
            with self.subTest(repr(other)[:80]):
                self.assertIs(board == other, False)
                self.assertIs(board != other, True)
        self.assertIs(Board.free(1) == [], False)
        self.assertIs(Board.free(1) == Stubborn(), False)

    def test_free(self):
        for size in range(1, 9):
            board = Board.free(size)
            with self.subTest(size):
                self.assertIsInstance(board, Board)
                self.assertEqual([board.size, board.terms(), len(board)], [size, [], 0])
                self.assertEqual([board.left((7,) * size), board.strain((-MOST,) * size)], [None, 0])


class Copies(unittest.TestCase):
    def test_list_that_was_passed(self):
        terms = list(ALL)
        board = Board(2, terms)
        self.assertEqual(terms, ALL)
        terms.append(("wish", 0, 0, 0, 1))
        terms[0] = None
        self.assertEqual([board.terms(), len(board), repr(board)], [ALL, 5, REPR])
        terms.clear()
        self.assertEqual(board, Board(2, ALL))

    def test_list_that_was_returned(self):
        board = Board(2, ALL)
        board.terms().clear()
        terms = board.terms()
        terms[1] = "x"
        terms.pop()
        self.assertEqual([board.terms(), len(board), repr(board)], [ALL, 5, REPR])

    def test_lists_of_boards_made_of_it(self):
        board = Board(2, ALL)
        for made in [board.also(ALL[0]), board.without(0), board.moved(0, 1), board.mirrored(), Board.free(2)]:
            before = list(made.terms())
            made.terms().clear()
            with self.subTest(repr(made)):
                self.assertEqual(made.terms(), before)
                self.assertEqual(board.terms(), ALL)


class Made(unittest.TestCase):
    def setUp(self):
        self.board = Board(2, ALL)

    def check(self, made, terms):
        """Check a Board that was made of the board, and that this one is as it was."""
        self.assertIsInstance(made, Board)
        self.assertIsNot(made, self.board)
        self.assertEqual([made.size, made.terms(), len(made)], [2, terms, len(terms)])
        self.assertEqual(made, Board(2, terms))
        self.assertEqual([self.board.terms(), len(self.board), repr(self.board)], [ALL, 5, REPR])

    def test_also(self):
        for term in ALL:
            self.check(self.board.also(term), ALL + [term])
        many = Board(1, [("stop", 0, 0, 9)] * 23).also(("wish", 0, 1, 2, 3))
        self.assertEqual(many.terms(), [("stop", 0, 0, 9)] * 23 + [("wish", 0, 1, 2, 3)])
        self.assertEqual(Board.free(1).also(("wish", 0, 1, 2, 3)), Board(1, [("wish", 0, 1, 2, 3)]))

    def test_without(self):
        for at in range(5):
            self.check(self.board.without(at), ALL[:at] + ALL[at + 1:])
        twice = Board(1, [("stop", 0, 0, 9), ("stop", 0, 0, 8), ("stop", 0, 0, 9)])
        self.assertEqual(twice.without(2).terms(), [("stop", 0, 0, 9), ("stop", 0, 0, 8)])
        self.assertEqual(Board(1, [("stop", 0, 0, 9)]).without(0), Board.free(1))

    def test_moved(self):
        wanted = [("wish", 0, 6, 11, 2), ("stop", 1, 2, 12), ("tie", 1, 0, 9, 9, 30), ("bar", 0, 1, 4, 10),
                  ("stop", 0, 7, 16)]
        for at, term in enumerate(wanted):
            self.check(self.board.moved(at, 7), ALL[:at] + [term] + ALL[at + 1:])
            self.check(self.board.moved(at, 0), ALL)
            self.assertEqual(self.board.moved(at, 7).moved(at, -7), self.board)
        self.check(self.board.moved(0, MOST - 4), [("wish", 0, MOST - 5, MOST, 2), *ALL[1:]])
        self.check(self.board.moved(4, -MOST), ALL[:4] + [("stop", 0, -MOST, 9 - MOST)])

    def test_mirrored(self):
        self.check(self.board.mirrored(), [("wish", 0, -4, 1, 2), ("stop", 1, -5, 5), ("tie", 1, 0, -2, -2, 30),
                                           ("bar", 0, 1, -3, 3), ("stop", 0, -9, 0)])
        self.assertEqual(self.board.mirrored().mirrored(), self.board)
        self.assertEqual(Board.free(4).mirrored(), Board.free(4))

    def test_mirrored_strain(self):
        chance = random.Random(30)
        for size in range(1, 9):
            terms, inner = terms_made(chance, size, 12, 5)
            board, other = Board(size, terms), Board(size, terms).mirrored()
            for standing in standings_near(chance, [], inner, 4, 20):
                turned = tuple(-setting for setting in standing)
                self.assertEqual(board.strain(standing), other.strain(turned))
                self.assertEqual(board.left(standing), other.left(turned))

    def test_somewhat_beyond_the_limits(self):
        full = Board(1, [("stop", 0, 0, 9)] * 24)
        self.assertEqual(full.also(("wish", 0, 1, 2, 3)).terms(), full.terms() + [("wish", 0, 1, 2, 3)])
        self.assertEqual(Board(1, [("stop", 0, 0, MOST)]).moved(0, 1).terms(), [("stop", 0, 1, MOST + 1)])


class Standings(unittest.TestCase):
    def test_given_values(self):
        board = Board(2, ALL)
        wanted = [((0, 0), None, 60), ((1, 3), None, 0), ((5, 5), None, 62), ((2, 5), None, 30), ((-1, 0), 4, None),
                  ((6, 6), 1, None), ((0, 4), 3, None), ((0, 6), 1, None), ((-9, 5), 3, None), ((10, 10), 1, None),
                  ((9, 5), 3, None), ((-1, -1), 4, None), ((MOST, MOST), 1, None), ((10 ** 39, 0), 3, None)]
        for standing, at, strained in wanted:
            with self.subTest(standing):
                self.assertEqual([board.left(standing), board.strain(standing)], [at, strained])

    def test_great_values(self):
        board = Board(2, [("wish", 0, MOST, MOST, 30), ("tie", 0, 1, -MOST, -MOST, 7), ("stop", 1, -MOST, MOST)])
        wanted = [((0, MOST), None, 30 * MOST), ((MOST, MOST), None, 7 * MOST), ((-MOST, -MOST), None, 67 * MOST),
                  ((-MOST, MOST), None, 67 * MOST), ((10 ** 39, -MOST), None, 37 * 10 ** 39 - 16 * MOST),
                  ((0, MOST + 1), 2, None), ((0, -MOST - 1), 2, None), ((0, 10 ** 39), 2, None)]
        for standing, at, strained in wanted:
            with self.subTest(standing):
                self.assertEqual([board.left(standing), board.strain(standing)], [at, strained])

    def test_zero_is_not_none(self):
        board = Board(1, [("stop", 0, 1, 2), ("wish", 0, 1, 1, 5)])
        self.assertEqual([board.left((0,)), board.left((1,)), board.strain((0,)), board.strain((1,))],
                         [0, None, None, 0])

    def test_against_the_definitions(self):
        chance = random.Random(31)
        for at in range(200):
            size, middle = at % 8 + 1, chance.choice([0, 0, MOST - 6, 6 - MOST])
            terms, inner = terms_made(chance, size, chance.randint(0, 24), 6, middle)
            board = Board(size, terms)
            for standing in standings_near(chance, [], inner, 3, 15) + [(10 ** 39,) * size, (-MOST,) * size]:
                self.assertEqual([board.left(standing), board.strain(standing)],
                                 [left(terms, standing), strain(terms, standing)], (board, standing))
            self.assertEqual(board, Board(size, terms))


class NotAsDescribed(unittest.TestCase):
    def check(self, place, size, terms):
        """Check that no board can be made of size and terms, which stay as they are."""
        before = repr(terms)
        with self.subTest(size=repr(size)[:80], terms=before[:80]):
            with self.assertRaises(Wrong) as caught:
                Board(size, terms)
            self.assertIs(type(caught.exception), Wrong)
            self.assertEqual(caught.exception.place, place)
            self.assertEqual(repr(terms), before)

    def test_sizes(self):
        for size in [0, 9, -1, 10, MOST, -8, 10 ** 39, True, False, None, "2", "", [], [2], (2,), {}, {2: 2}, b"\x02",
                     *odd_things()]:
            self.check(0, size, [])
            self.check(0, size, TERMS)
            self.check(0, size, None)
            self.check(0, size, [None])
            self.check(0, size, TERMS * 9)

    def test_no_lists(self):
        for terms in [None, True, False, 0, 1, "", "[]", (), tuple(TERMS), {}, dict(enumerate(TERMS)), Board(2, TERMS),
                      TERMS[0], iter(TERMS), Stubborn(), b""]:
            self.check(1, 2, terms)

    def test_odd_things(self):
        for thing in odd_things():
            if type(thing) is not list or thing:
                self.check(1, 2, thing)
            for terms in [[thing], [TERMS[0], thing], [thing, *TERMS], [*TERMS, thing, TERMS[0]]]:
                self.check(1, 2, terms)

    def test_too_many_terms(self):
        for many in (25, 26, 100, 9999):
            self.check(1, 2, TERMS[:1] * many)
        self.assertEqual(len(Board(2, TERMS[:1] * 24)), 24)

    def test_items_that_are_no_terms(self):
        bad = [
            ("wish", 2, 0, 0, 1), ("wish", -1, 0, 0, 1), ("tie", 0, 2, 0, 0, 1), ("tie", 2, 0, 0, 0, 1),
            ("stop", 2, 0, 0), ("bar", 0, 2, 0, 0), ("tie", 0, 0, 0, 0, 1), ("bar", 1, 1, 0, 0),
            ["wish", 0, 0, 0, 1], ["stop", 0, 0, 0], [("wish", 0, 0, 0, 1)], (("wish", 0, 0, 0, 1),),
            ("wish", True, 0, 0, 1), ("wish", 0, True, 1, 1), ("wish", 0, 0, True, 1), ("wish", 0, 0, 0, True),
            ("stop", False, 0, 0), ("bar", 0, True, 0, 0), ("tie", True, 0, 0, 0, 1), ("wish", 0, 0, 0),
            ("wish", 0, 0, 0, 1, 1), ("tie", 0, 1, 0, 0), ("tie", 0, 1, 0, 0, 1, 1), ("stop", 0, 0),
            ("stop", 0, 0, 0, 1), ("bar", 0, 1, 0), ("bar", 0, 1, 0, 0, 1), ("wish", 0, 1, 0, 1), ("stop", 0, 5, 4),
            ("tie", 0, 1, 5, 4, 1), ("bar", 0, 1, 5, 4), ("wish", 0, 0, 0, 0), ("wish", 0, 0, 0, 31),
            ("tie", 0, 1, 0, 0, 0), ("tie", 0, 1, 0, 0, 31), ("wish", 0, 0, 0, -1), ("wish", 0, 0, MOST + 1, 1),
            ("stop", 0, -MOST - 1, 0), ("step", 0, 0, 0), ("", 0, 0, 0), (), None, 0, "wish", "wish,0,0,0,1", {},
        ]
        for term in bad:
            self.check(1, 2, [term])
            self.check(1, 2, [*TERMS, term])
            self.check(1, 2, [*TERMS[:1] * 23, term])
            self.check(1, 2, [term, *TERMS])

    def test_dials_that_the_size_does_not_have(self):
        for size in range(1, 8):
            for term in [("wish", size, 0, 0, 1), ("stop", size, 0, 0), ("tie", 0, size, 0, 0, 1),
                         ("bar", size, 0, 0, 0)]:
                self.check(1, size, [term])
                self.assertEqual(Board(size + 1, [term]).terms(), [term])


if __name__ == "__main__":
    unittest.main()
