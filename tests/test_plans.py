"""Points 60 to 62, 5 and 9: how far standings are apart, plans, and shortest ones."""

import random
import unittest

from mostpulled.beats import rest, runs
from mostpulled.boards import Board
from mostpulled.errors import BadStep, NotAllowed
from mostpulled.plans import apart, exchange, follow, shortest, to_best
from things import (
    FORCED, MOST, WORDS, after, all_steps, best_in_box, best_of_all, box, far, left, odd_things,
    standings_near, strain, terms_made,
)


class Examples(unittest.TestCase):
    def test_point_60(self):
        self.assertEqual([apart((0, 5, 2), (3, 1, 2)), exchange((9, 0, 5), (2, 4, 4), [1, 3, 20])],
                         [(3, 4), ((7, 0, 4), (4, 4, 5))])

    def test_point_61(self):
        with self.assertRaises(BadStep) as caught:
            follow(Board(2, [('stop', 0, 0, 4)]), (0, 0), [(1, [0, 1], 4), (-1, [1], 9), (1, [0], 1)])
        self.assertEqual(caught.exception.at, 2)

    def test_point_62(self):
        plan = shortest(Board.free(2), (0, 0), (3, -1))
        self.assertEqual(follow(Board.free(2), (0, 0), plan), (3, -1))
        self.assertEqual(sum(times for _, _, times in plan), 4)


class Apart(unittest.TestCase):
    def test_given_standings(self):
        wanted = [((0,), (0,), (0, 0)), ((0,), (5,), (5, 0)), ((5,), (0,), (0, 5)), ((1, 2, 3), (1, 2, 3), (0, 0)),
                  ((1, 2, 3), (4, 4, 9), (6, 0)), ((1, 2, 3), (1, 0, -4), (0, 7)), ((1, 2, 3), (0, 3, 3), (1, 1)),
                  ((MOST, -MOST), (-MOST, MOST), (2 * MOST, 2 * MOST)), ((-3,) * 8, (-1,) * 7 + (-9,), (2, 6)),
                  ((10 ** 39, 0), (-10 ** 39, 1), (1, 2 * 10 ** 39))]
        for one, other, found in wanted:
            with self.subTest(one, other=other):
                self.assertEqual(apart(one, other), found)
                self.assertEqual(apart(other, one), found[::-1])
                self.assertIs(type(apart(one, other)), tuple)


class Exchange(unittest.TestCase):
    def check(self, one, other, numbers):
        """Check both standings against the counts that point 60 tells."""
        before = list(numbers)
        found = exchange(one, other, numbers)
        counts = [sum(number <= here - there for number in numbers) for here, there in zip(one, other)]
        self.assertEqual(found, (tuple(here - count for here, count in zip(one, counts)),
                                 tuple(there + count for there, count in zip(other, counts))))
        self.assertEqual(numbers, before)
        self.assertEqual([type(part) for part in (found, *found)], [tuple] * 3)
        return found

    def test_no_numbers(self):
        for one, other in [((0,), (0,)), ((9, -9), (-9, 9)), ((MOST,) * 8, (-MOST,) * 8)]:
            self.assertEqual(self.check(one, other, []), (one, other))

    def test_one_number(self):
        self.assertEqual(self.check((5, 6, 7, -5), (0, 0, 0, 0), [6]), ((5, 5, 6, -5), (0, 1, 1, 0)))
        self.assertEqual(self.check((1, 0, -1), (0, 0, 0), [1]), ((0, 0, -1), (1, 0, 0)))

    def test_several_in_any_order(self):
        numbers = [2, 9, 4, 1]
        wanted = self.check((0, 1, 2, 3, 4, 8, 9, 10), (0,) * 8, numbers)
        self.assertEqual(wanted, ((0, 0, 0, 1, 1, 5, 5, 6), (0, 1, 2, 2, 3, 3, 4, 4)))
        for other in ([1, 2, 4, 9], [9, 4, 2, 1], [4, 1, 9, 2]):
            self.assertEqual(self.check((0, 1, 2, 3, 4, 8, 9, 10), (0,) * 8, other), wanted)

    def test_fifty_and_gaps_beyond_and_below(self):
        numbers = list(range(2, 102, 2))
        self.assertEqual(self.check((0, 1, 2, 99, 100, 101, MOST, -MOST), (0,) * 8, numbers),
                         ((0, 1, 1, 50, 50, 51, MOST - 50, -MOST), (0, 0, 1, 49, 50, 50, 50, 0)))
        self.check((10 ** 39, -10 ** 39), (-10 ** 39, 10 ** 39), numbers[::-1])
        self.check((MOST, 0), (0, MOST), [10 ** 18 - 1, 10 ** 18, 10 ** 18 + 1])

    def test_exchange_of_allowed_standings(self):
        chance = random.Random(9)
        for at in range(160):
            size, middle = at % 8 + 1, chance.choice([0, MOST - 9])
            terms, inner = terms_made(chance, size, chance.choice([4, 12, 24]), 9, middle)
            found = standings_near(chance, terms, inner, 3, 12)
            for _ in range(10):
                one, other = chance.choice(found), chance.choice(found)
                numbers = chance.sample(range(1, 60), chance.randint(0, 50))
                first, second = self.check(one, other, numbers)
                self.assertEqual([left(terms, first), left(terms, second)], [None, None])
                self.assertLessEqual(strain(terms, first) + strain(terms, second),
                                     strain(terms, one) + strain(terms, other))


class Follow(unittest.TestCase):
    def setUp(self):
        self.board = Board(2, [("stop", 0, 0, 4), ("bar", 0, 1, -6, 6), ("wish", 1, 7, 7, 7)])

    def good(self, board, standing, plan, wanted):
        before = repr(plan)
        found = follow(board, standing, plan)
        self.assertEqual(found, wanted)
        self.assertIs(type(found), tuple)
        self.assertEqual(repr(plan), before)

    def bad(self, board, standing, plan, at):
        before = repr(plan)
        with self.subTest(before[:80]):
            with self.assertRaises(BadStep) as caught:
                follow(board, standing, plan)
            self.assertIs(type(caught.exception), BadStep)
            self.assertEqual(caught.exception.at, at)
            self.assertEqual(repr(plan), before)

    def test_plans_of_all_lengths(self):
        self.good(self.board, (1, 2), [], (1, 2))
        self.good(self.board, (1, 2), [(1, [0], 3)], (4, 2))
        plan = [(1, [0], 3), (-1, [1], 4), (1, [1], 12), (-1, [0, 1], 2), (1, [0], 1), (1, [0, 1], 1), (-1, [0], 1),
                (-1, [1], 9)]
        self.good(self.board, (1, 2), plan, (3, 0))
        self.good(self.board, (1, 2), [(1, [0], 3), (-1, [0], 3)] * 200, (1, 2))
        self.good(self.board, (1, 2), [(1, [0], 3), (-1, [0], 3)] * 199 + [(1, [1], 1)] * 2, (1, 4))
        self.bad(self.board, (1, 2), [(1, [0], 3), (-1, [0], 3)] * 199 + [(1, [0], 3), (1, [0], 1)], 399)

    def test_no_list_or_too_long(self):
        for plan in [None, True, 0, 1, "", "plan", (), ((1, [0], 1),), {}, {0: (1, [0], 1)}, (1, [0], 1), b"",
                     [(1, [0], 3), (-1, [0], 3)] * 200 + [(1, [0], 1)], [None] * 401, [(1, [0], 1)] * 9999,
                     [thing for thing in odd_things() if type(thing) is not list]]:
            self.bad(self.board, (1, 2), plan, 0)
        for thing in odd_things():
            if type(thing) is not list or thing:
                self.bad(self.board, (1, 2), thing, 0)

    def test_items_that_are_no_parts_of_a_plan(self):
        items = [
            (1, [0], 0), (1, [0], -1), (1, [0], True), (1, [0], None), (1, [0], "1"), (1, [0], [1]), (1, [0]), (1,), (),
            (1, [0], 1, 1), [1, [0], 1], ((1, [0]), 1), (0, [0], 1), (2, [0], 1), (-2, [0], 1), (True, [0], 1),
            (None, [0], 1), ("up", [0], 1), (1, [], 1), (1, [2], 1), (1, [-1], 1), (1, [1, 0], 1), (1, [0, 0], 1),
            (1, (0,), 1), (1, 0, 1), (1, [True], 1), (1, None, 1), (1, [[0]], 1), (1, {0: 0}, 1), ([0], 1, 1),
            (1, [0], -10 ** 39), [], {}, None, 1, "", *odd_things(),
        ]
        for item in items:
            self.bad(self.board, (1, 2), [item], 0)
            self.bad(self.board, (1, 2), [(1, [0], 3), item, (1, [0], 9)], 1)
            self.bad(self.board, (1, 2), [(1, [0], 1)] * 3 + [item], 3)
            self.bad(self.board, (1, 2), [(1, [0], 4), item], 0)

    def test_steps_that_leave_a_stop_or_bar(self):
        self.bad(self.board, (0, 0), [(1, [0], 5)], 0)
        self.bad(self.board, (0, 0), [(-1, [0], 1)], 0)
        self.bad(self.board, (0, 0), [(1, [1], 6), (1, [1], 1)], 1)
        self.bad(self.board, (0, 0), [(1, [1], 7), (1, [0], 1)], 0)
        self.bad(self.board, (0, 0), [(1, [0], 5), (-1, [0], 1)], 0)
        self.bad(self.board, (0, 0), [(1, [0, 1], 4), (-1, [1], 6), (1, [0, 1], 1), (-1, [0, 1], 1)], 2)
        self.bad(self.board, (0, 0), [(1, [0, 1], 4), (-1, [1], 5), (-1, [1], 6), None], 2)
        self.bad(self.board, (0, 0), [(1, [0], 4), (-1, [0], 5), (1, [0], 1)], 1)

    def test_many_times(self):
        most = 10 ** 40 - 1
        self.good(Board.free(2), (0, 5), [(1, [0], most), (-1, [1], most), (-1, [0], most)], (0, 5 - most))
        self.good(Board(2, [("bar", 0, 1, -1, 1)]), (0, 1), [(1, [0, 1], most), (-1, [0, 1], most - 7)], (7, 8))
        self.bad(Board(2, [("bar", 0, 1, -1, 1)]), (0, 1), [(1, [0, 1], most), (-1, [0, 1], most), (-1, [1], most)], 2)
        self.good(Board(1, [("stop", 0, -MOST, MOST)]), (-MOST,), [(1, [0], 2 * MOST)] + [(-1, [0], MOST)], (0,))
        self.bad(Board(1, [("stop", 0, -MOST, MOST)]), (-MOST,), [(1, [0], 2 * MOST + 1)], 0)

    def test_against_steps_one_by_one(self):
        chance = random.Random(61)
        for at in range(300):
            size = at % 5 + 1
            terms, inner = terms_made(chance, size, chance.randint(1, 8), 6, words=("stop", "bar", "wish", "tie"))
            steps, plan, place, broken = all_steps(size), [], inner, None
            for index in range(chance.randint(0, 8)):
                way, group = chance.choice(steps)
                times = chance.randint(1, 4)
                plan.append((way, group, times))
                for _ in range(times):
                    place = after(place, way, group)
                    if broken is None and left(terms, place) is not None:
                        broken = index
            if broken is None:
                self.good(Board(size, terms), inner, plan, place)
            else:
                self.bad(Board(size, terms), inner, plan, broken)


def fewest_steps(terms, standing, ends, standings):
    """Return the number of steps to the nearest of the ends, by a search over all steps within the standings."""
    allowed = {other for other in standings if left(terms, other) is None}
    reached, edge, many = {standing}, [standing], 0
    steps = all_steps(len(standing))
    while not reached & ends:
        many += 1
        edge = sorted({after(place, way, group) for place in edge for way, group in steps} & allowed - reached)
        if not edge:
            return None
        reached |= set(edge)
    return many


class Shortest(unittest.TestCase):
    def check(self, terms, standing, other, plan):
        """Check that a plan leads from the standing to the other one with the fewest steps; return how many."""
        self.assertIs(type(plan), list)
        self.assertLessEqual(len(plan), 400)
        place, many = standing, 0
        for item in plan:
            self.assertEqual([type(part) for part in (item, *item)], [tuple, int, list, int])
            way, group, times = item
            self.assertIn((way, group), all_steps(len(standing)))
            self.assertGreaterEqual(times, 1)
            # The ends of each straight part, and some of the places between them.
            for step in {1, 2, 3, times // 2, times - 1, times}:
                if 1 <= step <= times:
                    self.assertIsNone(left(terms, after(place, way, group, step)), (terms, standing, other, plan))
            place, many = after(place, way, group, times), many + times
        self.assertEqual(place, other, (terms, standing, other, plan))
        self.assertEqual(many, far(standing, other))
        return many

    def check_between(self, terms, standing, other):
        """Check plans both ways round, and from both standings to themselves."""
        board = Board(len(standing), terms)
        for one, two in [(standing, other), (other, standing), (standing, standing), (other, other)]:
            plan = shortest(board, one, two)
            self.check(terms, one, two, plan)
            self.assertEqual(follow(board, one, plan), two)
            for _, group, _ in plan:
                group.append(9)
            plan.append(None)
            self.check(terms, one, two, shortest(board, one, two))
        self.assertEqual(shortest(board, standing, standing), [])
        self.assertEqual(board, Board(len(standing), terms))

    def test_boards_with_stops_and_bars(self):
        chance = random.Random(62)
        for at in range(240):
            size, span = at % 8 + 1, chance.choice([2, 9, 10 ** 17])
            words = chance.choice([WORDS, ("bar", "bar", "stop"), ("bar", "tie"), FORCED])
            terms, inner = terms_made(chance, size, chance.choice([3, 8, 24]), span, chance.choice([0, span]), words)
            found = standings_near(chance, terms, inner, span, 30)
            for _ in range(6):
                self.check_between(terms, chance.choice(found), chance.choice(found))

    def test_ends_of_allowed_standings(self):
        terms = [("bar", 0, 1, -2, 3), ("bar", 1, 2, -2, 3), ("bar", 2, 0, -1, 4), ("stop", 0, 0, 6)]
        allowed = [standing for standing in box(3, 9) if left(terms, standing) is None]
        chance = random.Random(63)
        for _ in range(400):
            self.check_between(terms, chance.choice(allowed), chance.choice(allowed))

    def test_against_a_search_over_all_steps(self):
        chance = random.Random(64)
        for at in range(90):
            size = at % 3 + 1
            terms, inner = terms_made(chance, size, chance.randint(1, 6), 3,
                                      words=("stop", "bar", "wish", "tie", "bar"))
            board, standings = Board(size, terms), box(size, 6)
            found = [standing for standing in standings_near(chance, terms, inner, 2,
                                                             20) if max(map(abs, standing)) < 6]
            if found:
                one, other = chance.choice(found), chance.choice(found)
                many = self.check(terms, one, other, shortest(board, one, other))
                self.assertEqual(fewest_steps(terms, one, {other}, standings), many)

    def test_errors(self):
        board = Board(1, [("wish", 0, 0, 0, 1), ("stop", 0, 0, 9), ("stop", 0, 0, 5)])
        for one, other, at in [((6,), (0,), 2), ((0,), (6,), 2), ((10,), (6,), 1), ((6,), (10,), 2), ((-1,), (-1,), 1)]:
            with self.assertRaises(NotAllowed) as caught:
                shortest(board, one, other)
            self.assertEqual(caught.exception.at, at)

    def test_to_best(self):
        chance = random.Random(65)
        for at in range(160):
            size, span = at % 8 + 1, chance.choice([2, 9, 10 ** 17])
            words = chance.choice([WORDS, WORDS + FORCED * 3, FORCED])
            terms, inner = terms_made(chance, size, chance.choice([3, 8, 24]), span, chance.choice([0, MOST - span]),
                                      words)
            board = Board(size, terms)
            for standing in standings_near(chance, terms, inner, span, 3):
                plan = to_best(board, standing)
                end = follow(board, standing, plan)
                many = self.check(terms, standing, end, plan)
                self.assertEqual(best_of_all(terms, end), (0, []))
                self.assertEqual(many, rest(board, standing)[0])
                self.assertEqual(many, sum(times for _, _, times in runs(board, standing)))
                plan.clear()
                self.assertEqual(follow(board, standing, to_best(board, standing)), end)

    def test_to_best_against_a_search_over_all_steps(self):
        chance = random.Random(66)
        for at in range(60):
            size = at % 3 + 1
            terms, inner = terms_made(chance, size, chance.randint(1, 7), 2)
            board, standings = Board(size, terms), box(size, 6)
            _, best = best_in_box(terms, standings)
            for standing in standings_near(chance, terms, inner, 1, 3):
                if max(map(abs, standing)) <= 4:
                    plan = to_best(board, standing)
                    many = sum(times for _, _, times in plan)
                    self.assertEqual(fewest_steps(terms, standing, set(best), standings), many, (board, standing))

    def test_to_best_at_rest(self):
        board = Board(2, [('wish', 0, 0, 0, 1), ('wish', 1, 10, 10, 1), ('tie', 0, 1, 0, 0, 3)])
        self.assertEqual(to_best(board, (4, 4)), [])
        self.assertEqual(to_best(Board.free(8), (1,) * 8), [])


if __name__ == "__main__":
    unittest.main()
