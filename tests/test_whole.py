"""Points 1, 3 and 4 and the guarantees 5 to 13 over the whole program: functions of all modules together."""

import random
import unittest

from mostpulled import (
    alone, balance, beats, comparing, desk, gains, holding, kinds, least, listing, moving, notation, plans, starts,
    steps, terms,
)
from mostpulled.boards import Board
from mostpulled.books import Book
from mostpulled.errors import PullError
from things import MOST, WORDS, FORCED, all_steps, far, great_boards, small_boards, standings_near, terms_made


def some_boards(seed, many):
    """Return (size, terms, standing): small and great boards, with a standing that may be one that is not allowed."""
    chance = random.Random(seed)
    found = [(size, rows, tuple(chance.randint(-2, 2) for _ in range(size))) for size,
             rows in small_boards(seed, many, 4)]
    found += [(size, rows, tuple(chance.randint(-2, 2) for _ in range(size)))
              for size, rows in small_boards(seed + 1, many // 2, 4, FORCED)]
    return found + great_boards(seed + 2, many // 2)


def pair_calls(board, standing, other):
    """Return the calls of functions with a board and a standing."""
    wishes = [at for at, term in enumerate(board.terms()) if term[0] == "wish"]
    calls = [
        (board.left, standing), (board.strain, standing), (gains.gain, board, standing, 1, [0]),
        (gains.gain, board, standing, -1, list(range(board.size))), (steps.best_step, board, standing),
        (steps.best_steps, board, standing), (balance.pulls, board, standing),
        (balance.are_pulls, board, standing, [0] * len(board)), (beats.beat, board, standing),
        (all_runs, board, standing),
        (beats.run, board, standing, 3), (beats.rest, board, standing), (beats.trace, board, standing, 7),
        (plans.apart, standing, other), (plans.exchange, standing, other, [1, 5, 2]),
        (plans.follow, board, standing, [(1, [0], 2), (-1, [0], 2)]), (plans.shortest, board, standing, other),
        (plans.to_best, board, standing), (least.is_best, board, standing), (listing.first_best, board, standing),
        (holding.are_held, board, standing, 0, 1, [0] * len(board)), (moving.settled, board, standing,
                                                                      [(at, 1) for at in wishes][:3]),
    ]
    return calls + [(moving.after, board, standing, at, -2) for at in range(len(board))[:3]]


def all_runs(board, standing):
    """Return the list of the runs."""
    return list(beats.runs(board, standing))


def board_calls(board, other):
    """Return the calls of functions with a board and without a standing."""
    last = board.size - 1
    calls = [
        (starts.some, board), (starts.is_never, board, [0] * len(board)), (least.strain, board), (least.paper, board),
        (least.bounds, board), (least.dial_range, board, last), (least.chain, board, last, None), (all_best, board, 60),
        (listing.all_best, board), (holding.least_at, board, 0, 1), (holding.forces, board, last, 0),
        (holding.held, board, 0, 2),
        (holding.held, board, last, -1), (comparing.kinks, board), (comparing.unlike, board, other),
        (comparing.unlike, other, board),
        (alone.corners, board, 0), (balance.is_balanced, board, [0] * len(board)),
        (balance.worth, board, [1] * len(board)),
        (board.terms,), (board.mirrored,), (board.__len__,), (board.__repr__,),
        (least.is_chain, board, 0, None, (0, [], [])),
        (Board, board.size, board.terms()), (Board.free, board.size),
    ]
    if last > 0:
        calls += [(least.gap_range, board, 0, last), (least.chain, board, 0, last)]
    for at, term in list(enumerate(board.terms()))[:2]:
        calls += [(board.without, at), (terms.mirrored, term), (terms.distance, term, 1),
                  (terms.fitting, term, term[-2 if term[0] in FORCED else -1]),
                  (kinds.is_term, term, board.size), (notation.show_term, term),
                  (notation.read_term, notation.show_term(term), board.size)]
    return calls


def all_best(board, limit):
    """Return the list of the best standings with a limit."""
    return listing.all_best(board, limit=limit)


def book_calls(board, standing):
    """Return the calls with a Book of the terms, and a text of it."""
    names = ["n" + letter for letter in "abcdefghijklmnopqrstuvwx"]
    book = Book(board.size)
    for dial, setting in enumerate(standing):
        book.do(("turn", dial, setting))
    for name, term in zip(names, board.terms()):
        try:
            book.do(("add", name, term))
        except PullError:
            pass
    text = notation.show_log(book)
    calls = [(book.log,), (book.terms,), (book.board,), (book.at_rest,), (book.left,), (book.done,), (book.since,),
             (book.copied,),
             (book.past, 1), (book.__len__,), (notation.show_log, book), (notation.read_log, text, board.size),
             (notation.read_deed, "turn 0 5", board.size), (notation.show_standing, standing)]
    lines = ["standing", "strain", "left", "done", "terms", "log", "next", "runs", "least", "range 0", "hold 0 1",
             "beat 9", "no"]
    return calls + [(desk.answered, board.size, text, line) for line in lines]


def shown(thing):
    """Return a text of what a call returned; of a Book all that it answers."""
    if isinstance(thing, Book):
        return repr([thing.size, thing.standing, thing.log(), thing.terms(), thing.board(), thing.since(),
                     thing.done()])
    return repr(thing)


def outcome(call):
    """Return (text of what a call returns or raises, what it returns)."""
    function, *arguments = call
    try:
        found = function(*arguments)
    except PullError as error:
        return f"{type(error).__name__} {vars(error)}", None
    return shown(found), found


def spoiled(thing):
    """Change all lists in what was returned."""
    if isinstance(thing, (tuple, list)):
        for part in thing:
            spoiled(part)
    if isinstance(thing, list):
        thing.append("spoiled")
        thing.reverse()
        del thing[1:2]


def lists_in(thing):
    """Return all lists in what was returned."""
    if not isinstance(thing, (tuple, list)):
        return []
    inner = [found for part in thing for found in lists_in(part)]
    return inner + [thing] if isinstance(thing, list) else inner


class SameEachTime(unittest.TestCase):
    def test_drawn_order(self):
        chance = random.Random(3)
        boards = some_boards(300, 24)
        first = {}
        calls = self.calls(boards)
        for turn in range(3):
            order = list(range(len(calls)))
            chance.shuffle(order)
            for at in order:
                arguments = [shown(argument) for argument in calls[at][1:]]
                text, found = outcome(calls[at])
                self.assertEqual(first.setdefault(at, text), text, calls[at])
                self.assertEqual([shown(argument) for argument in calls[at][1:]], arguments)
                lists = lists_in(found)
                self.assertEqual(len({id(row) for row in lists}), len(lists), calls[at])
                given = {id(row) for argument in calls[at][1:] for row in lists_in(argument)}
                self.assertFalse(given & {id(row) for row in lists}, calls[at])
                spoiled(found)
            # The next time, all boards, standings and books are made anew.
            calls = self.calls(boards)
        self.assertGreater(len(calls), 2000)
        self.assertGreater(len({text.split(" ")[0] for text in first.values() if text.endswith("}")}), 5)

    def calls(self, boards):
        """Return the calls of all functions for boards that are made anew."""
        calls = []
        for at, (size, rows, standing) in enumerate(boards):
            board, other = Board(size, list(rows)), Board(size, rows[::-1][:5])
            calls += pair_calls(board, standing, tuple(setting + at % 3 for setting in standing))
            calls += board_calls(board, other)
            calls += book_calls(board, tuple(max(min(setting, MOST), -MOST) for setting in standing))
        return calls


class Together(unittest.TestCase):
    def test_guarantees_5_to_7_and_11(self):
        chance = random.Random(5)
        for at in range(40):
            size = at % 8 + 1
            rows, inner = terms_made(chance, size, 24, chance.choice([3, 10 ** 9, 10 ** 17]), words=WORDS + FORCED)
            board = Board(size, rows)
            held = least.paper(board)
            for standing in standings_near(chance, rows, inner, 3, 3):
                many, best = beats.rest(board, standing)
                self.assertEqual([many, sum(times for _, _, times in plans.to_best(board, standing))],
                                 [far(standing, best)] * 2)
                self.assertTrue(least.is_best(board, best) and balance.are_pulls(board, best, held))
                self.assertEqual(board.strain(best), balance.worth(board, held))
                self.assertEqual([least.is_best(board, standing), balance.pulls(board, standing) is not None],
                                 [many == 0] * 2)
                self.assertLessEqual(balance.worth(board, held), board.strain(standing))
                self.assertGreaterEqual(far(standing, listing.first_best(board, best)), many)

    def test_any_best_step_leads_to_rest_in_as_many_beats(self):
        chance = random.Random(6)
        for at in range(30):
            size = at % 5 + 1
            rows, inner = terms_made(chance, size, 12, 4, words=WORDS + FORCED)
            board = Board(size, rows)
            standing = chance.choice(standings_near(chance, rows, inner, 6, 6))
            many, _ = beats.rest(board, standing)
            for left in range(many, 0, -1):
                way, group = chance.choice(steps.best_steps(board, standing))
                standing = plans.follow(board, standing, [(way, group, 1)])
                self.assertEqual(beats.rest(board, standing)[0], left - 1)
            self.assertEqual(steps.best_steps(board, standing), [])

    def test_hands_hold_where_wishes_do(self):
        chance = random.Random(12)
        for at in range(30):
            size = at % 4 + 1
            rows, _ = terms_made(chance, size, 10, chance.choice([3, 10 ** 17]), words=FORCED)
            board, dial = Board(size, rows), chance.randrange(size)
            slope = holding.forces(board, dial, -10 ** 21)[1]
            for place, weight in alone.corners(board, dial):
                self.assertEqual(holding.forces(board, dial, place), (slope, slope + weight))
                self.assertEqual(holding.held(board, dial, slope)[1], place)
                slope += weight
                self.assertEqual(holding.held(board, dial, slope)[0], place)

    def test_turned_boards_gain_like_the_mirrored_ones(self):
        for size, rows, _ in some_boards(301, 12):
            board = Board(size, rows)
            self.assertEqual(board.mirrored().mirrored(), board)
            if starts.some(board)[0] == "standing":
                low, high = least.bounds(board)
                turned = [None if end is None else tuple(-setting for setting in end) for end in (high, low)]
                self.assertEqual(list(least.bounds(board.mirrored())), turned)
                standing = starts.some(board)[1]
                for way, group in all_steps(size)[:30]:
                    self.assertEqual(gains.gain(board.mirrored(), tuple(-setting for setting in standing), -way, group),
                                     gains.gain(board, standing, way, group))


if __name__ == "__main__":
    unittest.main()
