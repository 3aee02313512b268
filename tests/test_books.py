"""Points 100, 101 and 13: books, against logs that are done again from the start by the plain definitions."""

import random
import unittest

from mostpulled.beats import rest, run
from mostpulled.boards import Board
from mostpulled.books import Book
from mostpulled.errors import (
    Broken, NoDeed, NotAllowed, Nothing, Taken, TooFar, TooMany, Unknown, Wrong,
)
from mostpulled.holding import held
from mostpulled.kinds import is_deed
from mostpulled.least import bounds, strain
from mostpulled.notation import read_log, show_log
from things import (
    FORCED, MOST, WORDS, after, beat_of, best_of_all, dials_of, ends, left, odd_things, put_off, raised,
)


class Example(unittest.TestCase):
    def test_point_101(self):
        book = Book(2)
        deeds = [('add', 'low', ('wish', 0, 0, 0, 1)), ('add', 'tie', ('tie', 0, 1, 0, 0, 3)), ('turn', 1, 10)]
        self.assertEqual([book.do(deed) for deed in deeds], [0, 0, 0])
        self.assertEqual([book.do(('beat', 4)), book.standing, book.left()], [4, (0, 6), 6])
        self.assertEqual(raised(lambda: book.insert(0, ('add', 'tie', ('stop', 1, 0, 9)))), (Broken, 2))


def error_of(terms, deed):
    """Return the error of a deed before it is done, as raised returns it, None if there is none."""
    if deed[0] == "add":
        return (Taken, deed[1]) if deed[1] in terms else (TooMany, 24) if len(terms) == 24 else None
    if deed[0] in ("remove", "move") and deed[1] not in terms:
        return (Unknown, deed[1])
    if deed[0] == "move" and any(abs(end + deed[2]) > MOST for end in ends(terms[deed[1]])):
        return (TooFar,)
    return None


def done(terms, standing, deed):
    """Return (terms, standing, beats, error) after a deed: what the words of point 100 say, one by one."""
    error = error_of(terms, deed)
    if error is not None:
        return terms, standing, 0, error
    word, behind, place, beats = deed[0], dict(terms), standing, 0
    if word == "add":
        behind[deed[1]] = deed[2]
    if word == "remove":
        del behind[deed[1]]
    if word == "move":
        term = terms[deed[1]]
        low, high = ends(term)
        behind[deed[1]] = (term[0], *dials_of(term), low + deed[2], high + deed[2]) + term[len(dials_of(term)) + 3:]
    if word == "turn":
        place = after(standing, 1, [deed[1]], deed[2])
    in_order = [behind[name] for name in sorted(behind)]
    if word == "beat":
        while beats < deed[1] and beat_of(in_order, place) is not None:
            place, beats = after(place, *beat_of(in_order, place)[:2]), beats + 1
    broken = left(in_order, place)
    if broken is not None:
        return terms, standing, 0, (NotAllowed, broken)
    return behind, place, beats, None


class Plain:
    """A book that does its whole log again for each answer."""

    def __init__(self, size, log=(), undone=()):
        self.size, self.log, self.undone = size, list(log), list(undone)

    def all_left(self, log):
        """Return (list of (terms, standing, beats) after each number of deeds, index of the first that fails)."""
        found = [({}, (0,) * self.size, 0)]
        for at, deed in enumerate(log):
            *behind, error = done(*found[-1][:2], deed) if is_deed(deed, self.size) else (None, NoDeed)
            if error is not None:
                return found, at
            found.append(tuple(behind))
        return found, None

    def do(self, deed):
        """Return (error, beats) of do."""
        if not is_deed(deed, self.size):
            return (NoDeed,), None
        if len(self.log) == 100:
            return (TooMany, 100), None
        *_, beats, error = done(*self.all_left(self.log)[0][-1][:2], deed)
        if error is None:
            self.log, self.undone = self.log + [deed], []
        return error, beats

    def insert(self, at, deed):
        """Return the error of insert."""
        if len(self.log) == 100:
            return (TooMany, 100)
        log = self.log[:at] + [deed] + self.log[at:]
        _, broken = self.all_left(log)
        if broken is not None:
            return (Broken, broken)
        self.log, self.undone = log, []
        return None


def beats_left(terms, standing):
    """Return the number of beats to rest, one by one."""
    many = 0
    while (step := beat_of(terms, standing)) is not None:
        standing, many = after(standing, *step[:2]), many + 1
    return many


def drawn_term(chance, size):
    """Return a small term; a stop or bar is wide."""
    word = chance.choice(WORDS + FORCED * 2 if size > 1 else ("wish", "wish", "stop"))
    dials = chance.sample(range(size), 2 if word in ("tie", "bar") else 1)
    low = chance.randint(-3, 3)
    if word in FORCED:
        return (word, *dials, low, low + chance.randint(0, 2), chance.randint(1, 3))
    return (word, *dials, low - chance.randint(0, 4), low + chance.randint(0, 4))


def drawn_deed(chance, size):
    """Return a small deed, of few names; it may well raise an error."""
    name = chance.choice(["a", "b", "c", "zz", "abcdefgh"])
    return chance.choice([
        ("add", name, drawn_term(chance, size)), ("add", name, drawn_term(chance, size)), ("remove", name),
        ("move", name, chance.choice([0, 1, -2, 5, 3 * MOST, -3 * MOST, 10 ** 39])),
        ("turn", chance.randrange(size), chance.randint(-4, 4)),
        ("beat", chance.choice([0, 1, 2, 9, 10 ** 21])), ("turn", chance.randrange(size), chance.randint(-9, 9))])


class AgainstPlain(unittest.TestCase):
    def check(self, book, plain):
        """Check all answers of a book."""
        found, _ = plain.all_left(plain.log)
        terms, standing, _ = found[-1]
        in_order = [terms[name] for name in sorted(terms)]
        self.assertEqual(book.log(), plain.log)
        self.assertEqual([book.size, book.standing, len(book)], [plain.size, standing, len(plain.log)])
        self.assertEqual(book.terms(), [(name, terms[name]) for name in sorted(terms)])
        self.assertEqual(book.board(), Board(plain.size, in_order))
        is_rest = best_of_all(in_order, standing)[0] == 0
        self.assertIs(book.at_rest(), is_rest)
        self.assertEqual(book.left(), beats_left(in_order, standing))
        self.assertEqual(book.done(), sum(beats for *_, beats in found))
        rests = [best_of_all([names[name] for name in sorted(names)], place)[0] == 0 for names, place, _ in found]
        since = min([k for k in range(len(rests)) if all(rests[k:])], default=None)
        self.assertEqual(book.since(), since)

    def step(self, chance, book, plain):
        """Do something with a book, and the same with a plain one."""
        size, kind = plain.size, chance.random()
        if kind < 0.55:
            deed = drawn_deed(chance, size)
            error, beats = plain.do(deed)
            if error is None:
                self.assertEqual(book.do(deed), beats)
            else:
                self.assertEqual(raised(lambda: book.do(deed)), error)
        elif kind < 0.7 and plain.log:
            plain.undone.append(plain.log.pop())
            self.assertEqual(book.back(), plain.undone[-1])
        elif kind < 0.82 and plain.undone:
            plain.log.append(plain.undone.pop())
            self.assertEqual(book.again(), plain.log[-1])
        elif kind < 0.94:
            at, deed = chance.randint(0, len(plain.log)), drawn_deed(chance, size)
            error = plain.insert(at, deed)
            self.assertEqual(raised(lambda: self.assertIsNone(book.insert(at, deed))), error)
        if not plain.log:
            self.assertEqual(raised(book.back), (Nothing,))
        if not plain.undone:
            self.assertEqual(raised(book.again), (Nothing,))

    def test_drawn_deeds(self):
        chance = random.Random(101)
        for at in range(60):
            size = at % 3 + 1
            book, plain = Book(size), Plain(size)
            self.check(book, plain)
            for turn in range(40):
                self.step(chance, book, plain)
                if turn % 5 == 0 or turn > 37:
                    self.check(book, plain)
                    self.check_copies(chance, book, plain)

    def check_copies(self, chance, book, plain):
        """Check a copy and a past, and that they go on independently."""
        copy, count = book.copied(), chance.randint(0, len(plain.log))
        past, other = book.past(count), Plain(plain.size, plain.log[:count])
        self.assertEqual([copy == book, len(copy), past == book], [True, len(book), count == len(plain.log)])
        twin = Plain(plain.size, plain.log, plain.undone)
        for _ in range(4):
            self.step(chance, copy, twin)
            self.step(chance, past, other)
        self.assertEqual([copy.log(), past.log(), book.log()], [twin.log, other.log, plain.log])
        again = book.copied()
        for deed in reversed(plain.undone):
            self.assertEqual(again.again(), deed)
        self.assertEqual(raised(again.again), (Nothing,))
        self.assertEqual(book.log(), plain.log)

    def test_same_as_logs_written_and_read(self):
        chance = random.Random(102)
        for at in range(12):
            book, plain = Book(at % 4 + 1), Plain(at % 4 + 1)
            for _ in range(20):
                self.step(chance, book, plain)
            read = read_log(show_log(book), book.size)
            self.assertEqual([read, read.standing, read.terms(), read.done(), read.since()],
                             [book, book.standing, book.terms(), book.done(), book.since()])


class Do(unittest.TestCase):
    def setUp(self):
        self.book = Book(2)
        self.book.do(("add", "m", ("wish", 0, 3, 5, 2)))
        self.book.do(("add", "b", ("stop", 1, -4, 4)))
        self.book.do(("turn", 1, 2))
        self.book.do(("turn", 0, 7))
        self.book.back()

    def state(self):
        """Return all that the book answers, with what can be done again."""
        copy = self.book.copied()
        undone = []
        while raised(copy.copied().again) is None:
            undone.append(copy.again())
        book = self.book
        return [book.log(), book.terms(), book.standing, book.board(), book.done(), book.left(), book.since(), undone]

    def check(self, deed, *error):
        """Check that do raises an error of just this class, and that all stays as it was."""
        before = self.state()
        self.assertEqual(raised(lambda: self.book.do(deed)), error, repr(deed)[:200])
        self.assertEqual(self.state(), before)
        self.assertEqual(before[-1], [("turn", 0, 7)])

    def test_each_deed(self):
        book = self.book
        self.assertEqual([book.log(), book.standing],
                         [[("add", "m", ("wish", 0, 3, 5, 2)), ("add", "b", ("stop", 1, -4, 4)), ("turn", 1, 2)],
                          (0, 2)])
        self.assertEqual([book.do(("beat", 0)), book.do(("beat", 2)), book.do(("beat", 10 ** 21)),
                          book.do(("beat", 1))],
                         [0, 2, 1, 0])
        self.assertEqual([book.standing, book.done(), book.at_rest(), book.left()], [(3, 2), 3, True, 0])
        self.assertEqual([book.do(("add", "a", ("bar", 1, 0, -1, 4))), book.do(("move", "b", -1)),
                          book.do(("move", "m", 10 ** 18 - 5)), book.do(("remove", "a"))], [0] * 4)
        self.assertEqual(book.terms(), [("b", ("stop", 1, -5, 3)), ("m", ("wish", 0, MOST - 2, MOST, 2))])
        self.assertEqual(book.board(), Board(2, [("stop", 1, -5, 3), ("wish", 0, MOST - 2, MOST, 2)]))
        self.assertEqual([book.do(("beat", 10 ** 21)), book.standing], [MOST - 5, (MOST - 2, 2)])
        self.assertEqual([book.done(), len(book)], [MOST - 2, 12])

    def test_taken_then_too_many(self):
        self.check(("add", "m", ("stop", 0, 9, 9)), Taken, "m")
        self.check(("add", "b", ("wish", 0, 0, 0, 1)), Taken, "b")
        book = Book(1)
        for at in range(24):
            book.do(("add", "abcdefghijklmnopqrstuvwx"[at], ("wish", 0, at, at, 1)))
        for name in ("y", "z", "aa"):
            self.assertEqual(raised(lambda: book.do(("add", name, ("stop", 0, 9, 9)))), (TooMany, 24))
        self.assertEqual(raised(lambda: book.do(("add", "x", ("wish", 0, 0, 0, 1)))), (Taken, "x"))
        self.assertEqual([len(book), len(book.board())], [24, 24])
        book.do(("remove", "c"))
        self.assertEqual(book.do(("add", "c", ("wish", 0, 0, 0, 1))), 0)

    def test_unknown_then_too_far(self):
        for name in ("a", "mm", "bb", "add", "zzzzzzzz"):
            self.check(("remove", name), Unknown, name)
            for by in (0, 1, MOST, 10 ** 39):
                self.check(("move", name, by), Unknown, name)
        for by in (MOST - 4, -MOST - 4, 10 ** 39, -10 ** 39, MOST, -MOST - 5):
            self.check(("move", "m", by), TooFar)
        for by in (MOST - 3, 2 * MOST, -MOST + 3):
            self.check(("move", "b", by), TooFar)
        self.assertEqual([self.book.do(("move", "m", MOST - 5)), self.book.do(("move", "m", -2 * MOST + 2))], [0, 0])
        self.assertEqual(self.book.terms()[1], ("m", ("wish", 0, -MOST, 2 - MOST, 2)))

    def test_not_allowed_comes_last(self):
        self.check(("add", "c", ("stop", 0, 1, 9)), NotAllowed, 1)
        self.check(("add", "a", ("stop", 0, 1, 9)), NotAllowed, 0)
        self.check(("add", "z", ("bar", 0, 1, -1, 9)), NotAllowed, 2)
        self.check(("move", "b", 7), NotAllowed, 0)
        self.check(("move", "b", -7), NotAllowed, 0)
        self.check(("turn", 1, 3), NotAllowed, 0)
        self.check(("turn", 1, -MOST), NotAllowed, 0)
        self.book.do(("add", "a", ("bar", 0, 1, -2, 9)))
        self.book.do(("turn", 0, 7))
        self.book.back()
        self.check(("turn", 1, 3), NotAllowed, 0)
        self.check(("move", "b", -7), NotAllowed, 1)
        self.check(("turn", 0, -1), NotAllowed, 0)

    def test_remove_never_leaves_a_range(self):
        for name in ("m", "b"):
            self.assertEqual(self.book.do(("remove", name)), 0)
        self.assertEqual([self.book.terms(), self.book.board(), self.book.at_rest()], [[], Board.free(2), True])

    def test_turns(self):
        for by in (MOST, -MOST, 0, 5):
            self.assertEqual(self.book.do(("turn", 0, by)), 0)
        self.assertEqual(self.book.standing, (5, 2))
        book = Book(1)
        for _ in range(100):
            book.do(("turn", 0, MOST))
        self.assertEqual(book.standing, (100 * MOST,))

    def no_deeds(self):
        """Return new values that are no deeds."""
        wish = ("wish", 0, 0, 0, 1)
        return odd_things() + [
            ("add", "a", ("wish", 2, 0, 0, 1)), ("add", "a", ("tie", 0, 2, 0, 0, 1)),
            ("add", "a", ("tie", 0, 0, 0, 0, 1)),
            ("add", "a", ("wish", 0, 1, 0, 1)), ("add", "a", ("wish", 0, 0, 0, 31)), ("add", "a", ("wish", 0, 0, 0, 0)),
            ("add", "a", ("stop", 0, 0, MOST + 1)), ("add", "a", ("stop", 0, 0, True)), ("add", "a", ("stop", 0, 0)),
            ("add", "a", ["wish", 0, 0, 0, 1]), ("add", "a", None), ("add", "a", "wish,0,0,0,1"), ("add", "a", ()),
            ("add", "", wish), ("add", "A", wish), ("add", "abcdefghi", wish), ("add", "a1", wish),
            ("add", "a b", wish),
            ("add", "a\n", wish), ("add", None, wish), ("add", ["a"], wish), ("add", b"a", wish), ("add", 1, wish),
            ("add", "a"), ("add",), ("add", "a", wish, 0), ["add", "a", wish], ("add", wish, "a"), ("Add", "a", wish),
            ("remove", "M"), ("remove",), ("remove", "m", 0), ("remove", None), ("remove", ("m",)), ["remove", "m"],
            ("remove", "m" * 9), ("move", "m"), ("move", "m", None), ("move", "m", True), ("move", "m", False),
            ("move", "m", "1"), ("move", "m", [1]), ("move", "m", 1, 1), ("move", "M", 1), ("move", 0, 1),
            ("move", 1, "m"),
            ["move", "m", 1], ("turn", 2, 0), ("turn", -1, 0), ("turn", True, 0), ("turn", 0, True),
            ("turn", 0, MOST + 1),
            ("turn", 0, -MOST - 1), ("turn", 0, None), ("turn", 0, "1"), ("turn", 0), ("turn", 0, 1, 1), ["turn", 0, 1],
            ("turn", "m", 1), ("turn", None, 1), ("turn", [0], 1), ("beat", -1), ("beat", 10 ** 21 + 1), ("beat", True),
            ("beat", False), ("beat", None), ("beat", "4"), ("beat",), ("beat", 1, 1), ["beat", 1], ("beat", [1]),
            ("beat", ()),
            ("beats", 1), ("back",), ("again",), ("insert", 0, ("beat", 1)), "beat 1", "add a wish,0,0,0,1", ("", 1),
            (("beat", 1),), [("beat", 1)], {"beat": 1}, (None, "m"), ({}, "m"), (b"beat", 1), ("remove", {}),
            ("move", {}, 1),
        ]

    def test_no_deed(self):
        for deed in self.no_deeds():
            before = repr(deed)
            self.check(deed, NoDeed)
            self.assertEqual(repr(deed), before)

    def test_no_deed_then_100_deeds_then_errors_of_the_deed(self):
        book = Book(2)
        book.do(("add", "m", ("wish", 0, 3, 5, 2)))
        for _ in range(99):
            book.do(("beat", 0))
        log = book.log()
        for deed in [("add", "m", ("wish", 0, 3, 5, 2)), ("remove", "z"), ("move", "z", 1), ("move", "m", 10 ** 39),
                     ("turn", 0, 1), ("beat", 1), ("add", "q", ("stop", 0, 9, 9))]:
            self.assertEqual(raised(lambda: book.do(deed)), (TooMany, 100))
        for deed in self.no_deeds():
            self.assertEqual(raised(lambda: book.do(deed)), (NoDeed,))
        self.assertEqual([len(book), book.log(), raised(book.again)], [100, log, (Nothing,)])
        self.assertEqual([book.back(), book.do(("beat", 2)), len(book)], [("beat", 0), 2, 100])

    def test_deeds_with_any_value_of_the_right_kind(self):
        book = Book(8)
        for deed in [("add", "a", ("bar", 7, 0, -MOST, MOST)), ("add", "zzzzzzzz", ("tie", 0, 7, -MOST, MOST, 30)),
                     ("turn", 7, MOST), ("beat", 10 ** 21), ("move", "zzzzzzzz", 0), ("remove", "a")]:
            self.assertEqual(book.do(deed), 0)
        self.assertEqual(book.standing, (0,) * 7 + (MOST,))


class BackAndAgain(unittest.TestCase):
    def test_nothing(self):
        book = Book(1)
        self.assertEqual([raised(book.back), raised(book.again)], [(Nothing,), (Nothing,)])
        book.do(("turn", 0, 3))
        self.assertEqual(raised(book.again), (Nothing,))
        self.assertEqual([book.back(), raised(book.back), book.again(), raised(book.again)],
                         [("turn", 0, 3), (Nothing,), ("turn", 0, 3), (Nothing,)])
        self.assertEqual([book.log(), book.standing], [[("turn", 0, 3)], (3,)])

    def test_many_of_both(self):
        deeds = [("add", "a", ("wish", 0, 9, 9, 1)), ("turn", 0, 2), ("beat", 3), ("move", "a", -20),
                 ("beat", 10 ** 21),
                 ("remove", "a"), ("turn", 0, 1)]
        standings = [(0,), (0,), (2,), (5,), (5,), (-11,), (-11,), (-10,)]
        book = Book(1)
        self.assertEqual([book.do(deed) for deed in deeds], [0, 0, 3, 0, 16, 0, 0])
        for times in (1, 3, 7):
            self.assertEqual([book.back() for _ in range(times)], deeds[::-1][:times])
            self.assertEqual([book.standing, book.log()], [standings[7 - times], deeds[:7 - times]])
            self.assertEqual([book.again() for _ in range(times)], deeds[7 - times:])
            self.assertEqual([book.standing, book.log(), book.done()], [(-10,), deeds, 19])
        for at in range(6, -1, -1):
            self.assertEqual([book.back(), book.standing], [deeds[at], standings[at]])
        for at in range(7):
            self.assertEqual([book.again(), book.standing], [deeds[at], standings[at + 1]])

    def test_what_leaves_nothing_to_do_again(self):
        for change in [lambda book: book.do(("turn", 0, 5)), lambda book: book.do(("turn", 0, 4)),
                       lambda book: book.do(("beat", 0)), lambda book: book.insert(0, ("beat", 0)),
                       lambda book: book.insert(1, ("turn", 0, 5)), lambda book: book.insert(0, ("turn", 0, 5))]:
            book = Book(1)
            book.do(("turn", 0, 4))
            book.do(("turn", 0, 5))
            book.back()
            change(book)
            self.assertEqual([raised(book.again), len(book)], [(Nothing,), 2])

    def test_what_leaves_it(self):
        book = Book(1)
        book.do(("add", "a", ("stop", 0, 0, 9)))
        book.do(("turn", 0, 5))
        book.do(("turn", 0, 3))
        book.back()
        book.back()
        for call, error in [
                (lambda: book.do(("turn", 0, 10)), (NotAllowed, 0)), (lambda: book.do(None), (NoDeed,)),
                (lambda: book.do(("remove", "b")), (Unknown, "b")), (lambda: book.insert(0, ("turn", 0, -1)),
                                                                     (Broken, 1)),
                (lambda: book.insert(2, ("beat", 0)), (Wrong, 0)), (lambda: book.past(2), (Wrong, 0)),
                (lambda: book.insert(1, None), (Broken, 1)), (lambda: book.do(("add", "a", ("stop", 0, 0, 1))),
                                                              (Taken, "a"))]:
            self.assertEqual(raised(call), error)
            self.assertEqual([len(book), book.copied().again()], [1, ("turn", 0, 5)])
        [book.log(), book.terms(), book.board(), book.left(), book.done(), book.since(), book.past(1), len(book),
         book == book]
        self.assertEqual([book.again(), book.again(), book.standing], [("turn", 0, 5), ("turn", 0, 3), (8,)])
        self.assertEqual([raised(book.past(2).again), raised(book.past(3).again)], [(Nothing,)] * 2)


class Insert(unittest.TestCase):
    def test_at_each_place(self):
        deeds = [("add", "a", ("wish", 0, 9, 9, 1)), ("turn", 0, 2), ("beat", 3), ("move", "a", -2)]
        for at in range(5):
            book = Book(1)
            for deed in deeds:
                book.do(deed)
            self.assertIsNone(book.insert(at, ("turn", 0, 6)))
            self.assertEqual(book.log(), deeds[:at] + [("turn", 0, 6)] + deeds[at:])
            self.assertEqual([book.standing, book.done()], [(9,), 1] if at < 3 else [(11,), 3])
            self.assertEqual([book.back(), book.again()], [book.log()[-1]] * 2)

    def test_wrong_index(self):
        for many in (0, 3):
            book = Book(2)
            for _ in range(many):
                book.do(("turn", 0, 1))
            for at in [True, False, -1, many + 1, many + 2, 10 ** 39, -10 ** 39, None, "0", [0], (0,), {},
                       *odd_things()]:
                for deed in [("beat", 1), None, ("turn", 0, MOST)]:
                    self.assertEqual(raised(lambda: book.insert(at, deed)), (Wrong, 0))
            self.assertEqual(book.log(), [("turn", 0, 1)] * many)

    def test_wrong_then_too_many_then_broken(self):
        book = Book(1)
        for _ in range(100):
            book.do(("turn", 0, 1))
        for deed in [("beat", 1), None, ("remove", "a")]:
            for at in (0, 50, 100):
                self.assertEqual(raised(lambda: book.insert(at, deed)), (TooMany, 100))
            for at in (-1, 101, None, True):
                self.assertEqual(raised(lambda: book.insert(at, deed)), (Wrong, 0))
        self.assertEqual([book.standing, len(book)], [(100,), 100])
        book.back()
        self.assertEqual(raised(lambda: book.insert(40, None)), (Broken, 40))
        self.assertEqual(book.again(), ("turn", 0, 1))
        book.back()
        self.assertIsNone(book.insert(99, ("beat", 5)))
        self.assertEqual([len(book), raised(book.again)], [100, (Nothing,)])

    def test_no_deeds(self):
        book = Book(2)
        for deed in [("turn", 0, 1), ("turn", 1, 1), ("turn", 0, 5)]:
            book.do(deed)
        book.back()
        for thing in odd_things() + [("turn", 2, 1), ["turn", 0, 1], ("add", "a", ["wish", 0, 0, 0, 1]),
                                     ("beat", True)]:
            for at in range(3):
                self.assertEqual(raised(lambda: book.insert(at, thing)), (Broken, at))
        self.assertEqual([book.log(), book.standing], [[("turn", 0, 1), ("turn", 1, 1)], (1, 1)])
        self.assertEqual(book.again(), ("turn", 0, 5))

    def test_broken_by_deeds_behind(self):
        deeds = [("turn", 0, 1), ("add", "a", ("stop", 0, 0, 9)), ("add", "b", ("wish", 0, 5, 5, 1)), ("move", "b", 2),
                 ("beat", 4), ("remove", "a"), ("turn", 0, 30), ("add", "a", ("stop", 0, 35, 36)), ("beat", 1)]
        cases = [(0, ("turn", 0, 9), 2), (0, ("turn", 0, -2), 2), (0, ("add", "a", ("wish", 0, 0, 0, 1)), 2),
                 (0, ("add", "b", ("wish", 0, 0, 0, 1)), 3), (0, ("remove", "a"), 0), (1, ("turn", 0, 9), 2),
                 (2, ("remove", "a"), 6), (3, ("remove", "b"), 4), (4, ("move", "a", 4), 4),
                 (3, ("move", "b", MOST - 6), 4),
                 (5, ("turn", 0, 2), 8), (6, ("add", "a", ("wish", 0, 0, 0, 1)), 8),
                 (9, ("add", "a", ("wish", 0, 0, 0, 1)), 9),
                 (4, ("turn", 0, -1), 8), (1, ("add", "c", ("wish", 0, 0, 0, 2)), 8), (9, ("turn", 0, 9), 9)]
        for at, deed, broken in cases:
            with self.subTest(at, deed=deed):
                book = Book(1)
                for done_before in deeds:
                    book.do(done_before)
                book.do(("turn", 0, 1))
                book.back()
                self.assertEqual(raised(lambda: book.insert(at, deed)), (Broken, broken))
                self.assertEqual([book.log(), book.standing, book.done()], [deeds, (35,), 4])
                self.assertEqual([len(book.board()), book.again()], [2, ("turn", 0, 1)])

    def test_25_terms_behind(self):
        book = Book(1)
        for at in range(24):
            book.do(("add", "n" + "abcdefghijklmnopqrstuvwx"[at], ("wish", 0, at, at, 1)))
        self.assertEqual(raised(lambda: book.insert(3, ("add", "x", ("wish", 0, 0, 0, 1)))), (Broken, 24))
        self.assertIsNone(book.insert(24, ("remove", "na")))
        self.assertIsNone(book.insert(25, ("add", "x", ("wish", 0, 0, 0, 1))))
        self.assertEqual(len(book.board()), 24)


class Queries(unittest.TestCase):
    def test_sizes(self):
        for size in range(1, 9):
            book = Book(size)
            self.assertEqual([book.size, book.standing, book.log(), book.terms(), len(book)],
                             [size, (0,) * size, [], [], 0])
            self.assertEqual([book.board(), book.at_rest(), book.left(), book.done(), book.since()],
                             [Board.free(size), True, 0, 0, 0])
        for size in [0, 9, -1, True, False, None, "2", [2], (2,), 10 ** 39, -10 ** 39, {}, *odd_things()]:
            self.assertEqual(raised(lambda: Book(size)), (Wrong, 0))

    def test_since(self):
        book = Book(1)
        wanted = [(("turn", 0, 5), 0), (("add", "a", ("wish", 0, 9, 9, 1)), None), (("beat", 2), None),
                  (("beat", 2), 4),
                  (("beat", 7), 4), (("turn", 0, -1), None), (("remove", "a"), 7), (("beat", 1), 7),
                  (("add", "b", ("wish", 0, 8, 8, 1)), 7), (("move", "b", 1), None), (("move", "b", -1), 11)]
        for deed, since in wanted:
            book.do(deed)
            self.assertEqual(book.since(), since, deed)
            self.assertIs(book.at_rest(), since is not None)
        found = [book.past(count).since() for count in range(12)]
        self.assertEqual(found, [0] + [since for _, since in wanted])
        book.insert(0, ("beat", 0))
        self.assertEqual(book.since(), 12)

    def test_past(self):
        book = Book(1)
        for by in (1, 2, 3):
            book.do(("turn", 0, by))
        book.back()
        for count, standing in [(0, 0), (1, 1), (2, 3)]:
            past = book.past(count)
            self.assertEqual([type(past), past.log(), past.standing], [Book, book.log()[:count], (standing,)])
            self.assertEqual(raised(past.again), (Nothing,))
        for count in [-1, 3, 4, True, False, None, "1", [1], 10 ** 39, *odd_things()]:
            self.assertEqual(raised(lambda: book.past(count)), (Wrong, 0))
        self.assertEqual(book.again(), ("turn", 0, 3))

    def test_copies_go_on_independently(self):
        book = Book(1)
        for by in (1, 2, 3):
            book.do(("turn", 0, by))
        book.back()
        copy, past = book.copied(), book.past(2)
        self.assertEqual([copy.again(), copy.standing, book.standing], [("turn", 0, 3), (6,), (3,)])
        copy.do(("add", "a", ("wish", 0, 0, 0, 1)))
        past.insert(0, ("turn", 0, 50))
        past.back()
        self.assertEqual([book.log(), book.terms()], [[("turn", 0, 1), ("turn", 0, 2)], []])
        self.assertEqual([book.again(), book.back(), book.back(), book.back()],
                         [("turn", 0, 3), ("turn", 0, 3), ("turn", 0, 2), ("turn", 0, 1)])
        self.assertEqual([len(copy), copy.standing, past.log(), past.standing],
                         [4, (6,), [("turn", 0, 50), ("turn", 0, 1)], (51,)])
        self.assertEqual([past.again(), past.standing], [("turn", 0, 2), (53,)])

    def test_equal(self):
        def made(size, *deeds):
            book = Book(size)
            for deed in deeds:
                book.do(deed)
            return book
        turn, beat = ("turn", 0, 1), ("beat", 5)
        self.assertEqual([made(1) == made(1), made(1) == made(2), made(2, turn) == made(2, turn)], [True, False, True])
        self.assertEqual([made(2, turn, beat) == made(2, beat, turn), made(2, turn) == made(2, turn, beat)],
                         [False, False])
        self.assertEqual([made(2, turn) == made(3, turn), made(2, turn) != made(2, turn)], [False, False])
        undone = made(2, turn, beat)
        undone.back()
        self.assertEqual([undone == made(2, turn), undone == made(2, turn, beat)], [True, False])
        undone.again()
        self.assertEqual(undone == made(2, turn, beat), True)
        for thing in [[], [turn], (), None, 0, "", Board.free(2), Board(2, []), {}, made(2, turn).log(), True]:
            self.assertIs(made(2, turn) == thing, False)
            self.assertIs(made(2) == thing, False)
            self.assertIs(thing == made(2), False)

    def test_lists_that_are_changed(self):
        book = Book(2)
        deeds = [("add", "b", ("wish", 0, 3, 5, 2)), ("add", "a", ("stop", 1, -4, 4)), ("beat", 1)]
        for deed in deeds:
            book.do(deed)
        for _ in range(3):
            log, terms, board = book.log(), book.terms(), book.board()
            self.assertEqual([log, terms], [deeds, [("a", deeds[1][2]), ("b", deeds[0][2])]])
            self.assertEqual([type(row) for row in log + terms], [tuple] * 5)
            board.terms().clear()
            log[0] = None
            log.clear()
            terms.append(terms)
            terms.pop(0)
            self.assertEqual([len(book), book.board(), book.standing], [3, board, (1, 0)])

    def test_at_rest_and_left_up_to_the_greatest_numbers(self):
        book = Book(2)
        book.do(("add", "a", ("wish", 0, MOST, MOST, 1)))
        for _ in range(6):
            book.do(("turn", 0, -MOST))
            book.do(("turn", 1, MOST))
        self.assertEqual([book.left(), book.at_rest()], [7 * MOST, False])
        book.do(("add", "t", ("tie", 0, 1, -MOST, MOST, 3)))
        self.assertEqual(book.left(), book.copied().do(("beat", 10 ** 21)))
        many, standing = rest(book.board(), book.standing)
        self.assertEqual(book.do(("beat", 10 ** 18)), 10 ** 18)
        self.assertEqual([book.left(), book.do(("beat", 10 ** 21)), book.standing, book.done()],
                         [many - 10 ** 18, many - 10 ** 18, standing, many])
        self.assertEqual([run(book.board(), standing, 1), book.since()], [(0, standing), len(book)])


class SameTermsAndStanding(unittest.TestCase):
    def answers(self, book):
        """Return what a book answers about its board."""
        board, standing = book.board(), book.standing
        return [board, standing, book.terms(), book.at_rest(), book.left(), strain(board), bounds(board),
                held(board, 0, 1),
                rest(board, standing), book.size]

    def test_other_ways(self):
        chance = random.Random(13)
        for _ in range(30):
            size = chance.randint(1, 4)
            inner = tuple(chance.randint(-3, 3) for _ in range(size))
            named = {}
            for name in chance.sample(["a", "b", "c", "aa", "zz", "abc", "x"], 5):
                term = drawn_term(chance, size)
                around = (*term[:-2], min(term[-2], 0), max(term[-1], 0))
                named[name] = term if term[0] in FORCED else put_off([around], inner)[0]
            turns = [("turn", dial, setting) for dial, setting in enumerate(inner)]
            book = Book(size)
            for deed in turns + [("add", name, named[name]) for name in sorted(named)]:
                book.do(deed)
            for other in self.others(chance, size, turns, named):
                self.assertEqual(self.answers(other), self.answers(book))

    def others(self, chance, size, turns, named):
        """Return Books that come to the same by other ways."""
        names = sorted(named)
        chance.shuffle(names)
        one = Book(size)
        for deed in turns[::-1] + [("add", name, named[name]) for name in names]:
            one.do(deed)
        two = one.copied()
        two.do(("remove", names[0]))
        two.do(("beat", 9))
        two.back()
        two.back()
        three = one.past(len(one) - 1)
        three.insert(0, ("add", "q", ("wish", 0, 9, 9, 1)))
        three.insert(1, ("beat", 0))
        three.insert(chance.randint(2, len(three)), ("remove", "q"))
        three.do(("add", names[-1], named[names[-1]]))
        four = two.copied()
        four.again()
        four.do(("add", names[0], named[names[0]]))
        five = read_log(show_log(three), size)
        six = Book(size)
        for deed in one.log():
            six.insert(len(six), deed)
        six.insert(0, ("beat", 3))
        return [one, two, three, four, five, six]


if __name__ == "__main__":
    unittest.main()
