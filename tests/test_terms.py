"""Points 22 to 24 with the definitions of point 2: arguments, distances, pulls and changed terms."""

import unittest

from mostpulled.kinds import is_term
from mostpulled.terms import argument, distance, fitted, fitting, mirrored, moved, nodes_of
from things import FORCED, MOST, ends, fits

NARROW = [(0, 0), (-2, -2), (3, 3), (0, 1), (-1, 0), (-1, 1), (0, 2), (2, 5), (-7, -4), (-3, 4)]
WIDE = [(MOST, MOST), (-MOST, -MOST), (MOST - 1, MOST), (-MOST, 1 - MOST), (MOST - 4, MOST - 1), (-MOST, MOST)]


def terms_of(low, high, force=3):
    """Return a term of each of the four kinds with these ends."""
    return [("wish", 1, low, high, force), ("tie", 2, 0, low, high, force), ("stop", 0, low, high),
            ("bar", 0, 2, low, high)]


def arguments_near(low, high):
    """Return arguments around both ends, in between and far away."""
    middle = (low + high) // 2
    near = [end + by for end in (low, high, middle) for by in range(-4, 5)]
    return sorted({*near, 0, MOST, -MOST, 2 * MOST, -2 * MOST, 10 ** 39, -10 ** 39})


class Examples(unittest.TestCase):
    def test_point_22(self):
        tie = ('tie', 0, 2, 1, 4, 5)
        found = [argument(tie, (9, 0, 2)), distance(tie, 7), distance(tie, 4), distance(tie, -1)]
        self.assertEqual(found, [7, 3, 0, 2])

    def test_point_23(self):
        found = [fitting(('wish', 0, 2, 2, 3), 2), fitting(('wish', 0, 2, 5, 3), 1), fitting(('stop', 0, 2, 5), 5)]
        self.assertEqual(found, [(-3, 3), (3, 3), (None, 0)])


class Arguments(unittest.TestCase):
    def test_single_dials(self):
        standing = (9, -4, MOST, -MOST, 10 ** 39, 0, 1, -1)
        for dial, setting in enumerate(standing):
            for term in [("wish", dial, 0, 5, 3), ("stop", dial, 0, 5)]:
                with self.subTest(term):
                    self.assertEqual(argument(term, standing), setting)

    def test_pairs_of_dials(self):
        standing = (9, -4, MOST, -MOST, 10 ** 39, 0, 1, -1)
        for dial, setting in enumerate(standing):
            for other, less in enumerate(standing):
                if dial == other:
                    continue
                for term in [("tie", dial, other, 0, 5, 3), ("bar", dial, other, 0, 5)]:
                    with self.subTest(term):
                        self.assertEqual(argument(term, standing), setting - less)

    def test_given_values(self):
        self.assertEqual(argument(("wish", 1, 0, 5, 3), (2, 7)), 7)
        self.assertEqual(argument(("tie", 1, 0, 0, 5, 3), (2, 7)), 5)
        self.assertEqual(argument(("tie", 0, 1, 0, 5, 3), (2, 7)), -5)
        self.assertEqual(argument(("stop", 0, 0, 5), (2, 7)), 2)
        self.assertEqual(argument(("bar", 1, 0, 0, 5), (2, 7)), 5)
        self.assertEqual(argument(("bar", 0, 1, 0, 5), (MOST, -MOST)), 2 * MOST)
        self.assertEqual(argument(("wish", 0, 0, 0, 1), (-3,)), -3)


class Distances(unittest.TestCase):
    def test_each_kind_around_its_ends(self):
        for low, high in NARROW + WIDE:
            for term in terms_of(low, high):
                for asked in arguments_near(low, high):
                    wanted = low - asked if asked < low else asked - high if asked > high else 0
                    with self.subTest(term, asked=asked):
                        self.assertEqual(distance(term, asked), wanted)

    def test_given_values(self):
        for term in terms_of(2, 5, 30):
            with self.subTest(term):
                found = [distance(term, asked) for asked in (-10, 1, 2, 3, 5, 6, 10)]
                self.assertEqual(found, [12, 1, 0, 0, 0, 1, 5])
        for term in terms_of(-4, -4):
            with self.subTest(term):
                self.assertEqual([distance(term, asked) for asked in (-6, -5, -4, -3, 0)], [2, 1, 0, 1, 4])
        for term in terms_of(MOST - 1, MOST):
            with self.subTest(term):
                found = [distance(term, asked) for asked in (-MOST, MOST - 2, MOST - 1, MOST, MOST + 1, 2 * MOST)]
                self.assertEqual(found, [2 * MOST - 1, 1, 0, 0, 1, MOST])

    def test_force_has_no_part_in_it(self):
        self.assertEqual([distance(("wish", 0, 0, 0, force), 7) for force in (1, 2, 30)], [7, 7, 7])


class Fitting(unittest.TestCase):
    def test_wishes_and_ties(self):
        for force in (1, 3, 30):
            for term in terms_of(2, 5, force)[:2] + terms_of(MOST - 3, MOST, force)[:2]:
                low, high = ends(term)
                wanted = [(low - 9, (force, force)), (low - 1, (force, force)), (low, (0, force)), (low + 1, (0, 0)),
                          (high - 1, (0, 0)), (high, (-force, 0)), (high + 1, (-force, -force)),
                          (high + 9, (-force, -force))]
                for asked, pulls in wanted:
                    with self.subTest(term, asked=asked):
                        self.assertEqual(fitting(term, asked), pulls)

    def test_wishes_and_ties_with_equal_ends(self):
        for end in (0, 2, -2, MOST, -MOST):
            for force in (1, 30):
                for term in terms_of(end, end, force)[:2]:
                    found = [fitting(term, end + by) for by in (-1, 0, 1)]
                    with self.subTest(term):
                        self.assertEqual(found, [(force, force), (-force, force), (-force, -force)])

    def test_neighbouring_ends(self):
        wish, tie, stop, bar = terms_of(-1, 0)
        for term in (wish, tie):
            self.assertEqual([fitting(term, asked) for asked in (-2, -1, 0, 1)], [(3, 3), (0, 3), (-3, 0), (-3, -3)])
        for term in (stop, bar):
            self.assertEqual([fitting(term, asked) for asked in (-1, 0)], [(0, None), (None, 0)])

    def test_stops_and_bars(self):
        for low, high in [(2, 5), (-5, -2), (-3, 4), (-MOST, 3 - MOST), (MOST - 3, MOST), (-MOST, MOST)]:
            for term in terms_of(low, high)[2:]:
                wanted = [(0, None), (0, 0), (0, 0), (None, 0)]
                with self.subTest(term):
                    found = [fitting(term, asked) for asked in (low, low + 1, high - 1, high)]
                    self.assertEqual(found, wanted)

    def test_stops_and_bars_with_equal_ends(self):
        for end in (0, 2, -2, MOST, -MOST):
            for term in terms_of(end, end)[2:]:
                with self.subTest(term):
                    self.assertEqual(fitting(term, end), (None, None))

    def test_just_the_pulls_that_the_definition_names(self):
        for low, high in NARROW + WIDE:
            for term in terms_of(low, high, 2):
                for asked in arguments_near(low, high):
                    if term[0] not in FORCED and not low <= asked <= high:
                        continue
                    least, greatest = fitting(term, asked)
                    for pull in [*range(-5, 6), 10 ** 39, -10 ** 39]:
                        within = (least is None or least <= pull) and (greatest is None or pull <= greatest)
                        with self.subTest(term, asked=asked, pull=pull):
                            self.assertEqual(within, fits(term, pull, asked))

    def test_result_is_a_tuple_of_two(self):
        for term in terms_of(0, 4):
            for asked in range(5):
                pulls = fitting(term, asked)
                with self.subTest(term, asked=asked):
                    self.assertIsInstance(pulls, tuple)
                    self.assertEqual(len(pulls), 2)


class Fitted(unittest.TestCase):
    def test_just_the_arguments_whose_pulls_are_these(self):
        for low, high in NARROW + WIDE:
            for term in terms_of(low, high, 2):
                for pull in range(-2, 3):
                    least, greatest = fitted(term, pull)
                    for asked in arguments_near(low, high):
                        allowed = term[0] in FORCED or low <= asked <= high
                        within = (least is None or least <= asked) and (greatest is None or asked <= greatest)
                        with self.subTest(term, asked=asked, pull=pull):
                            self.assertEqual(within, allowed and fits(term, pull, asked))


class Nodes(unittest.TestCase):
    def test_the_size_stands_for_no_dial(self):
        found = [nodes_of(term, 5) for term in terms_of(2, 4)]
        self.assertEqual(found, [(1, 5), (2, 0), (0, 5), (0, 2)])


class Changed(unittest.TestCase):
    def terms(self):
        """Return terms of all kinds, small and near the greatest values."""
        return [term for low, high in NARROW + WIDE for term in terms_of(low, high, 7)]

    def moves(self, term):
        """Return integers by which the term can be moved, up to the greatest values."""
        low, high = ends(term)
        found = [by for by in (-5, -1, 0, 1, 6, MOST // 3) if -MOST <= low + by and high + by <= MOST]
        return [*found, -MOST - low, MOST - high]

    def test_mirrored(self):
        wanted = [(("wish", 1, 2, 5, 3), ("wish", 1, -5, -2, 3)),
                  (("tie", 2, 0, -3, 4, 30), ("tie", 2, 0, -4, 3, 30)),
                  (("stop", 3, 0, 7), ("stop", 3, -7, 0)),
                  (("bar", 0, 1, -5, -5), ("bar", 0, 1, 5, 5)),
                  (("wish", 0, 0, 0, 1), ("wish", 0, 0, 0, 1)),
                  (("bar", 1, 0, -MOST, MOST - 1), ("bar", 1, 0, 1 - MOST, MOST))]
        for term, other in wanted:
            with self.subTest(term):
                self.assertEqual(mirrored(term), other)

    def test_moved(self):
        wanted = [(("wish", 1, 2, 5, 3), 4, ("wish", 1, 6, 9, 3)),
                  (("tie", 2, 0, -3, 4, 30), -5, ("tie", 2, 0, -8, -1, 30)),
                  (("stop", 3, 0, 7), 1, ("stop", 3, 1, 8)),
                  (("bar", 0, 1, -5, -5), 0, ("bar", 0, 1, -5, -5)),
                  (("wish", 0, -MOST, -MOST, 1), 2 * MOST, ("wish", 0, MOST, MOST, 1)),
                  (("bar", 1, 0, MOST - 2, MOST - 1), 1, ("bar", 1, 0, MOST - 1, MOST))]
        for term, by, other in wanted:
            with self.subTest(term, by=by):
                self.assertEqual(moved(term, by), other)

    def test_mirrored_is_a_term_and_twice_the_same(self):
        for term in self.terms():
            with self.subTest(term):
                self.assertIs(is_term(mirrored(term), 3), True)
                self.assertEqual(mirrored(mirrored(term)), term)

    def test_moved_is_a_term_and_there_and_back_the_same(self):
        for term in self.terms():
            for by in self.moves(term):
                with self.subTest(term, by=by):
                    self.assertIs(is_term(moved(term, by), 3), True)
                    self.assertEqual(moved(moved(term, by), -by), term)

    def test_mirrored_distance(self):
        standings = [(a, b, c) for a in (-6, 0, 3) for b in (-2, 1, 9) for c in (-4, 0, 2)]
        standings += [(MOST, -MOST, 0), (MOST - 2, 5, -MOST), (10 ** 39, 0, -10 ** 39)]
        for term in self.terms():
            other = mirrored(term)
            for standing in standings:
                turned = tuple(-setting for setting in standing)
                with self.subTest(term, standing=standing):
                    self.assertEqual(distance(other, argument(other, turned)), distance(term, argument(term, standing)))

    def test_moved_distance(self):
        for term in self.terms():
            for by in self.moves(term):
                other = moved(term, by)
                for asked in arguments_near(*ends(term)):
                    with self.subTest(term, by=by, asked=asked):
                        self.assertEqual(distance(other, asked + by), distance(term, asked))

    def test_dials_word_and_force_stay(self):
        for term in self.terms():
            for other in (mirrored(term), moved(term, 0)):
                with self.subTest(term):
                    self.assertIsInstance(other, tuple)
                    self.assertEqual(len(other), len(term))
                    many = 3 if term[0] in ("tie", "bar") else 2
                    self.assertEqual(other[:many], term[:many])
                    self.assertEqual(other[many + 2:], term[many + 2:])


if __name__ == "__main__":
    unittest.main()
