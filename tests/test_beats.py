"""Points 50, 51, 5, 10 and 32: beats, against beats that are done one by one after a look at all groups."""

import random
import unittest

from mostpulled.beats import beat, rest, run, runs, trace
from mostpulled.boards import Board
from mostpulled.errors import NotAllowed
from things import (
    FORCED, MOST, WORDS, after, beat_of, best_in_box, box, far, standings_near, strain, terms_made,
)


class Examples(unittest.TestCase):
    def test_point_50(self):
        board = Board(2, [('wish', 0, 0, 0, 1), ('wish', 1, 10, 10, 1), ('tie', 0, 1, 0, 0, 3)])
        self.assertEqual([beat(board, (0, 10)), list(runs(board, (0, 10)))], [(1, 10), [(1, [0], 10)]])

    def test_point_51(self):
        board = Board(2, [('wish', 0, 3, 3, 2), ('wish', 1, -3, -3, 2), ('tie', 0, 1, 0, 0, 1)])
        found = [rest(board, (0, 0)), run(board, (0, 0), 4), trace(board, (0, 0), 9)]
        self.assertEqual(found, [(6, (3, -3)), (4, (3, -1)), [1, 1, 1, 1, 1, 1]])


def beats_one_by_one(terms, standing):
    """Return the list of (standing, way, group, gain) of all beats, and the standing at rest."""
    done = []
    step = beat_of(terms, standing)
    while step is not None:
        done.append((standing, *step))
        standing = after(standing, *step[:2])
        step = beat_of(terms, standing)
    return done, standing


def joined(done):
    """Return the runs of a list of beats."""
    found = []
    for _, way, group, _ in done:
        if found and found[-1][:2] == [way, group]:
            found[-1][2] += 1
        else:
            found.append([way, group, 1])
    return [tuple(row) for row in found]


def boards_made(seed, many, spans=(1, 3, 6), full=24, sizes=(1, 2, 3, 4, 5, 6, 7, 8)):
    """Return (size, terms, standing) of boards made at will, small and near the greatest values."""
    chance = random.Random(seed)
    made = []
    for at in range(many):
        size, span = sizes[at % len(sizes)], chance.choice(spans)
        middle = chance.choice([0, 0, MOST - span, span - MOST])
        words = chance.choice([WORDS, WORDS + FORCED * 3, FORCED])
        terms, inner = terms_made(chance, size, chance.choice([full // 4, full // 2, full, full]), span, middle, words)
        found = standings_near(chance, terms, inner, span, 5)
        made.append((size, terms, chance.choice(found)))
    return made


class OneByOne(unittest.TestCase):
    def check(self, size, terms, standing):
        """Check all functions against beats done one by one."""
        board = Board(size, terms)
        done, end = beats_one_by_one(terms, standing)
        many = len(done)
        place = standing
        for before, way, group, _ in done:
            self.assertEqual(place, before)
            place = beat(board, place)
            self.assertEqual(place, after(before, way, group))
        self.assertIsNone(beat(board, end))
        self.assertEqual(list(runs(board, standing)), joined(done), (board, standing))
        self.assertEqual(rest(board, standing), (many, end))
        self.assertEqual(many, far(standing, end))
        for beats in {0, 1, many // 2, max(many - 1, 0), many, many + 1, 10 ** 21}:
            wanted = done[beats][0] if beats < many else end
            self.assertEqual(run(board, standing, beats), (min(beats, many), wanted), (board, standing, beats))
        gains = [gained for *_, gained in done]
        for limit in {0, 1, many // 2, many, many + 1, 400}:
            self.assertEqual(trace(board, standing, limit), gains[:limit], (board, standing, limit))
        self.assertEqual(board, Board(size, terms))

    def test_boards_of_one_to_four_dials(self):
        for size, terms, standing in boards_made(50, 240, sizes=(1, 2, 3, 4)):
            self.check(size, terms, standing)

    def test_boards_of_five_to_eight_dials(self):
        for size, terms, standing in boards_made(51, 40, sizes=(5, 6, 7, 8)):
            self.check(size, terms, standing)

    def test_from_far_away(self):
        chance = random.Random(52)
        for at in range(40):
            size = at % 4 + 1
            terms, inner = terms_made(chance, size, 8, 3, words=FORCED)
            self.check(size, terms, tuple(setting + chance.randint(-25, 25) for setting in inner))

    def test_boards_of_few_forces(self):
        chance = random.Random(53)
        for at in range(120):
            size = at % 5 + 1
            terms, inner = terms_made(chance, size, chance.randint(2, 10), 4)
            terms = [term[:-1] + (at % 2 + 1,) if term[0] in FORCED else term for term in terms]
            for standing in standings_near(chance, terms, inner, 4, 3):
                self.check(size, terms, standing)


class Runs(unittest.TestCase):
    def check(self, size, terms, standing):
        """Check each run at its two ends by a look at all groups, and that it is a run; return all runs."""
        board = Board(size, terms)
        found = list(runs(board, standing))
        place, total, gains = standing, 0, []
        for way, group, times in found:
            self.assertEqual([type(way), type(group), type(times)], [int, list, int])
            self.assertGreaterEqual(times, 1)
            first, last = beat_of(terms, place), beat_of(terms, after(place, way, group, times - 1))
            self.assertEqual([first[:2], last[:2]], [(way, group)] * 2)
            gains.append((first[2], way, group))
            gains.append((last[2], way, group))
            place = after(place, way, group, times)
            total += times
            behind = beat_of(terms, place)
            self.assertTrue(behind is None or behind[:2] != (way, group))
        self.assertEqual(rest(board, standing), (total, place))
        self.assertEqual(total, far(standing, place))
        for (more, way, group), (less, next_way, next_group) in zip(gains, gains[1:]):
            self.assertGreaterEqual(more, less)
            if (more, way) == (less, next_way):
                self.assertLessEqual({*group}, {*next_group})
        return found

    def check_parts(self, size, terms, standing):
        """Check that the board can be computed at any beat: run, and run on, gives the same as run at once."""
        board = Board(size, terms)
        total, end = rest(board, standing)
        for beats in (0, 1, total // 3, total // 2 + 1, total - 1, total, total + 1, 10 ** 21):
            if beats < 0:
                continue
            done, place = run(board, standing, beats)
            self.assertEqual(done, min(beats, total))
            self.assertEqual(rest(board, place), (total - done, end))
            self.assertEqual(run(board, place, 10 ** 21 if total < 10 ** 21 else total), (total - done, end))
            self.assertEqual(far(standing, place), done)

    def test_ends_far_apart(self):
        for size, terms, standing in boards_made(100, 96, spans=(10 ** 5, 10 ** 16, 10 ** 17, MOST // 2)):
            found = self.check(size, terms, standing)
            self.assertLess(len(found), 300)
            self.check_parts(size, terms, standing)

    def test_near_the_greatest_values(self):
        for size, terms, standing in boards_made(101, 48, spans=(2, 9, 1000)):
            self.check(size, terms, standing)
            self.check_parts(size, terms, standing)

    def test_eight_dials_with_ends_as_far_apart_as_can_be(self):
        chance = random.Random(102)
        for _ in range(12):
            terms = []
            for _ in range(24):
                low = chance.choice([-MOST, MOST, chance.randint(-MOST, MOST)])
                high = chance.choice([low, max(low, MOST), chance.randint(low, MOST)])
                dial, other = chance.sample(range(8), 2)
                force = chance.randint(1, 30)
                terms.append(chance.choice([("wish", dial, low, high, force), ("tie", dial, other, low, high, force)]))
            standing = tuple(chance.choice([-MOST, MOST, 0, chance.randint(-MOST, MOST)]) for _ in range(8))
            self.assertLess(len(self.check(8, terms, standing)), 300)
            self.check_parts(8, terms, standing)

    def test_from_outside_of_all_values(self):
        chance = random.Random(103)
        for at in range(16):
            size = at % 8 + 1
            terms, _ = terms_made(chance, size, 24, 100, words=FORCED)
            standing = tuple(chance.choice([-1, 1]) * chance.randint(10 ** 38, 10 ** 39) for _ in range(size))
            self.check(size, terms, standing)
            self.check_parts(size, terms, standing)

    def test_given_runs(self):
        board = Board(3, [("wish", 0, 100, 100, 5), ("bar", 0, 1, -9, 10), ("bar", 1, 2, -9, 10),
                          ("wish", 2, 60, 60, 1)])
        self.assertEqual(list(runs(board, (0, 0, 0))),
                         [(1, [0, 2], 9), (1, [0, 1, 2], 51), (1, [0], 1), (1, [0, 1], 19), (1, [0, 1, 2], 20)])
        board = Board(1, [("wish", 0, 0, 5, 3), ("wish", 0, 3, 3, 1)])
        self.assertEqual(list(runs(board, (-7,))), [(1, [0], 10)])
        self.assertEqual(list(runs(board, (9,))), [(-1, [0], 6)])
        self.assertEqual(list(runs(board, (3,))), [])

    def test_one_run_with_gains_that_fall(self):
        board = Board(1, [("wish", 0, end, end, 1) for end in range(10, 200, 10)])
        self.assertEqual(list(runs(board, (0,))), [(1, [0], 100)])
        self.assertEqual(trace(board, (0,), 400), [19 - 2 * (at // 10) for at in range(100)])


class Generators(unittest.TestCase):
    def setUp(self):
        self.board = Board(3, [("wish", 0, 100, 100, 5), ("bar", 0, 1, -9, 10), ("bar", 1, 2, -9, 10)])
        self.other = Board(2, [('wish', 0, 3, 3, 2), ('wish', 1, -3, -3, 2), ('tie', 0, 1, 0, 0, 1)])
        self.rows = [(1, [0], 10), (1, [0, 1], 10), (1, [0, 1, 2], 80)]

    def test_three_asked_in_turns(self):
        one, two, three = runs(self.board, (0, 0, 0)), runs(self.board, (0, 0, 0)), runs(self.other, (0, 0))
        self.assertEqual(next(one), self.rows[0])
        self.assertEqual(next(three), (1, [0], 3))
        self.assertEqual(next(one), self.rows[1])
        self.assertEqual(next(two), self.rows[0])
        self.assertEqual(next(three), (-1, [1], 3))
        self.assertEqual(next(two), self.rows[1])
        self.assertEqual([list(two), list(one), list(three)], [self.rows[2:], self.rows[2:], []])

    def test_lists_that_it_gave_are_changed(self):
        found = runs(self.board, (0, 0, 0))
        first = next(found)
        first[1].extend([1, 2])
        second = next(found)
        self.assertEqual(second, self.rows[1])
        second[1].clear()
        third = next(found)
        self.assertEqual(third, self.rows[2])
        third[1].append("x")
        self.assertEqual(list(found), [])
        self.assertEqual(list(runs(self.board, (0, 0, 0))), self.rows)
        places = [group for _, group, _ in runs(self.board, (0, 0, 0))]
        self.assertEqual(len({id(group) for group in places}), 3)

    def test_changed_lists_do_not_join_or_part_runs(self):
        board = Board(1, [("wish", 0, end, end, 1) for end in range(10, 200, 10)] + [("wish", 0, 0, 0, 1)])
        found = []
        for row in runs(board, (-50,)):
            found.append((row[0], list(row[1]), row[2]))
            row[1].clear()
        self.assertEqual(found, [(1, [0], far((-50,), rest(board, (-50,))[1]))])

    def test_left_early(self):
        found = runs(self.board, (0, 0, 0))
        next(found)
        found.close()
        for row in runs(self.board, (0, 0, 0)):
            break
        self.assertEqual(row, self.rows[0])
        self.assertEqual(list(runs(self.board, (0, 0, 0))), self.rows)
        self.assertEqual(rest(self.board, (0, 0, 0)), (100, (100, 90, 80)))

    def test_error_at_the_latest_when_the_first_tuple_is_asked_for(self):
        with self.assertRaises(NotAllowed) as caught:
            next(runs(self.board, (0, 99, 0)))
        self.assertEqual(caught.exception.at, 1)

    def test_gains_belong_to_the_caller(self):
        found = trace(self.other, (0, 0), 3)
        found.append(7)
        self.assertEqual(trace(self.other, (0, 0), 3), [1, 1, 1])


class ExactlySoMany(unittest.TestCase):
    def test_beats_to_rest_are_the_least_way_to_a_best_standing_in_a_box(self):
        chance = random.Random(5)
        for at in range(90):
            size = at % 3 + 1
            terms, inner = terms_made(chance, size, chance.randint(1, 8), 2)
            least, best = best_in_box(terms, box(size, 7))
            board = Board(size, terms)
            for standing in standings_near(chance, terms, inner, 1, 6):
                if max(map(abs, standing)) > 4:
                    continue
                beats, end = rest(board, standing)
                self.assertEqual(strain(terms, end), least)
                self.assertEqual(beats, min(far(standing, other) for other in best), (board, standing))

    def test_limits_of_trace(self):
        board = Board(1, [("wish", 0, 1000, 1000, 2)])
        self.assertEqual(trace(board, (0,), 0), [])
        self.assertEqual(trace(board, (0,), 400), [2] * 400)
        self.assertEqual(trace(board, (1000,), 400), [])
        self.assertEqual(trace(board, (1390,), 400), [2] * 390)

    def test_run_of_great_numbers_of_beats(self):
        board = Board(2, [("wish", 0, MOST, MOST, 2), ("wish", 1, -MOST, -MOST, 1)])
        self.assertEqual(rest(board, (-MOST, MOST)), (4 * MOST, (MOST, -MOST)))
        self.assertEqual(run(board, (-MOST, MOST), 3 * MOST + 1), (3 * MOST + 1, (MOST, -1)))
        self.assertEqual(run(board, (-10 ** 22, MOST), 10 ** 21), (10 ** 21, (-9 * 10 ** 21, MOST)))
        self.assertEqual(run(board, (0, 0), 0), (0, (0, 0)))


if __name__ == "__main__":
    unittest.main()
