"""Point 104: desks, against Books and the functions of boards."""

import random
import unittest

from mostpulled import least
from mostpulled.beats import runs
from mostpulled.books import Book
from mostpulled.desk import Desk, answered
from mostpulled.errors import (
    Broken, NoCommand, NotAllowed, NoText, Nothing, Taken, TooFar, TooMany, Unknown, Wrong,
)
from mostpulled.holding import forces
from mostpulled.notation import show_deed, show_log
from mostpulled.steps import best_step
from test_books import drawn_deed
from test_notation import NO_INTEGERS
from things import MOST, odd_things, raised

LOG = 'add a wish,0,0,0,1\nadd t tie,0,1,0,0,3\nturn 1 10\n'
QUERIES = ["standing", "strain", "left", "done", "terms", "log", "next", "runs", "least"]


class Example(unittest.TestCase):
    def test_point_104(self):
        self.assertEqual(answered(2, 'add a wish,0,0,0,1\nadd t tie,0,1,0,0,3\nturn 1 10\n', 'next'), 'down 1 3')


def plain_answer(book, line):
    """Return the answer of a query by what a Book and functions of its board return."""
    board, standing = book.board(), book.standing
    word, *numbers = line.split(" ")
    if word in ("range", "hold"):
        ask = least.dial_range if word == "range" else forces
        found = ask(board, *map(int, numbers))
        return "never" if found is None else " ".join("-" if end is None else str(end) for end in found)
    step = best_step(board, standing)
    all_runs = [(way, group, times) for way, group, times in runs(board, standing)]
    return {
        "standing": ",".join(map(str, standing)), "strain": str(board.strain(standing)), "left": str(book.left()),
        "done": str(book.done()), "log": show_log(book), "least": str(least.strain(board)),
        "terms": "; ".join(f"{name} {','.join(map(str, term))}" for name, term in book.terms()) or "-",
        "next": "rest" if step is None else moves([step])[0], "runs": "; ".join(moves(all_runs)) or "-",
    }[word]


def moves(rows):
    """Return the texts of tuples (way, group, number)."""
    return [f"{'up' if way == 1 else 'down'} {','.join(map(str, group))} {number}" for way, group, number in rows]


class Lines(unittest.TestCase):
    def told(self, size, *lines):
        """Return a Desk that executed lines."""
        desk = Desk(size)
        for line in lines:
            desk.execute(line)
        return desk

    def check(self, desk, *pairs):
        """Check answers of lines."""
        for line, answer in pairs:
            with self.subTest(line):
                self.assertEqual(desk.execute(line), answer)

    def test_deeds(self):
        self.check(Desk(2), ("add low wish,0,0,0,1", "ok"), ("add b stop,1,-4,20", "ok"),
                   ("add tie tie,0,1,0,0,3", "ok"),
                   ("turn 1 10", "ok"), ("beat 0", "0"), ("beat 4", "4"), ("beat 1000000000000000000000", "6"),
                   ("beat 7", "0"),
                   ("move low -3", "ok"), ("beat 2", "2"), ("remove tie", "ok"), ("standing", "-2,-2"), ("done", "12"),
                   ("terms", "b stop,1,-4,20; low wish,0,-3,-3,1"),
                   ("log",
                    "add low wish,0,0,0,1\nadd b stop,1,-4,20\nadd tie tie,0,1,0,0,3\nturn 1 10\nbeat 0\nbeat 4\n"
                    "beat 1000000000000000000000\nbeat 7\nmove low -3\nbeat 2\nremove tie\n"))

    def test_back_and_again(self):
        desk = self.told(2, "add low wish,0,0,0,1", "move low -3", "turn 1 -10", "beat 4")
        self.check(desk, ("back", "beat 4"), ("back", "turn 1 -10"), ("again", "turn 1 -10"), ("again", "beat 4"),
                   ("back", "beat 4"),
                   ("back", "turn 1 -10"), ("back", "move low -3"), ("back", "add low wish,0,0,0,1"), ("log", ""))
        self.assertEqual(raised(lambda: desk.execute("back")), (Nothing,))
        self.check(desk, ("again", "add low wish,0,0,0,1"), ("turn 0 0", "ok"))
        self.assertEqual(raised(lambda: desk.execute("again")), (Nothing,))

    def test_new_desks(self):
        for size in range(1, 9):
            zeros = ",".join("0" * size)
            desk = Desk(size)
            self.check(desk, ("standing", zeros), ("strain", "0"), ("left", "0"), ("done", "0"), ("terms", "-"),
                       ("log", ""),
                       ("next", "rest"), ("runs", "-"), ("least", "0"), (f"range {size - 1}", "- -"),
                       (f"hold {size - 1} 5", "0 0"),
                       (f"hold 0 -{'9' * 40}", "0 0"))
        for size in [0, 9, -1, True, False, None, "2", [2], (2,), 10 ** 39, *odd_things()]:
            self.assertEqual(raised(lambda: Desk(size)), (Wrong, 0))

    def test_queries(self):
        desk = self.told(2, "add low wish,0,0,0,1", "add up wish,1,10,10,1", "add tie tie,0,1,0,0,3", "turn 1 12")
        self.check(desk, ("standing", "0,12"), ("strain", "38"), ("left", "12"), ("next", "down 1 4"),
                   ("runs", "down 1 2; up 0 10"),
                   ("least", "10"), ("range 0", "0 10"), ("range 1", "0 10"), ("hold 0 20", "2 2"),
                   ("hold 0 10", "0 2"),
                   ("hold 0 5", "0 0"), ("hold 1 -4", "-2 -2"), ("beat 3", "3"), ("standing", "1,10"),
                   ("next", "up 0 2"),
                   ("runs", "up 0 9"), ("beat 99", "9"), ("next", "rest"), ("runs", "-"), ("left", "0"), ("done", "12"))
        stopped = self.told(3, "add a stop,0,-1,4", "add b bar,1,0,0,0", "add c wish,2,5,5,1")
        self.check(stopped, ("hold 0 5", "never"), ("hold 0 4", "0 -"), ("hold 1 -1", "- 0"), ("hold 1 -2", "never"),
                   ("hold 2 5", "-1 1"), ("range 0", "-1 4"), ("range 2", "5 5"), ("next", "up 2 1"),
                   ("runs", "up 2 5"), ("strain", "5"),
                   ("terms", "a stop,0,-1,4; b bar,1,0,0,0; c wish,2,5,5,1"))
        fixed = self.told(1, "add a stop,0,0,0")
        self.check(fixed, ("hold 0 0", "- -"), ("hold 0 1", "never"), ("range 0", "0 0"))
        groups = self.told(4, "add a bar,0,3,0,0", "add b bar,3,1,0,0", "add w wish,1,-7,-7,2", "add x wish,2,1,1,1")
        self.check(groups, ("next", "down 0,1,3 2"), ("runs", "down 0,1,3 7; up 2 1"), ("range 2", "1 1"),
                   ("range 3", "-7 -7"))

    def test_great_numbers(self):
        desk = self.told(1, f"add a wish,0,{MOST},{MOST},30", f"turn 0 -{MOST}")
        self.check(desk, ("left", str(2 * MOST)), ("strain", str(60 * MOST)), ("runs", f"up 0 {2 * MOST}"),
                   ("next", "up 0 30"),
                   (f"hold 0 {'9' * 40}", "30 30"), ("beat 1000000000000000000000", str(2 * MOST)),
                   ("standing", str(MOST)))

    def test_drawn_deeds_against_a_book(self):
        chance = random.Random(104)
        for at in range(40):
            size = at % 4 + 1
            desk, book = Desk(size), Book(size)
            for turn in range(30):
                self.step(chance, desk, book)
                if turn % 6 == 5:
                    lines = QUERIES + [f"range {chance.randrange(size)}",
                                       f"hold {chance.randrange(size)} {chance.randint(-9, 9)}"]
                    for line in lines:
                        self.assertEqual(desk.execute(line), plain_answer(book, line), (book.log(), line))
                        self.assertEqual(answered(size, show_log(book), line), plain_answer(book, line))

    def step(self, chance, desk, book):
        """Do something at a desk and with a book."""
        kind, deed = chance.random(), drawn_deed(chance, book.size)
        text = show_deed(deed)
        if kind < 0.6:
            wanted = self.result(lambda: str(book.do(deed)) if deed[0] == "beat" else ["ok", book.do(deed)][0])
            self.assertEqual(self.result(lambda: desk.execute(text)), wanted, (book.log(), text))
        elif kind < 0.7:
            at = chance.randint(0, len(book) + 1)
            wanted = self.result(lambda: book.insert(at, deed) or "ok")
            self.assertEqual(self.result(lambda: desk.execute(f"insert {at} {text}")), wanted)
        elif kind < 0.85:
            self.assertEqual(self.result(lambda: desk.execute("back")), self.result(lambda: show_deed(book.back())))
        else:
            self.assertEqual(self.result(lambda: desk.execute("again")), self.result(lambda: show_deed(book.again())))

    def result(self, call):
        """Return what a call returns, or the error that it raises with its fields."""
        found = []
        return raised(lambda: found.append(call())) or found[0]

    def test_insert(self):
        def desk():
            return self.told(1, "add a wish,0,9,9,1", "turn 0 2", "beat 3", "turn 0 1", "back")
        self.check(desk(), ("insert 0 turn 0 6", "ok"), ("standing", "9"), ("done", "1"), ("insert 4 remove a", "ok"),
                   ("insert 5 add b stop,0,9,9", "ok"),
                   ("log", "turn 0 6\nadd a wish,0,9,9,1\nturn 0 2\nbeat 3\nremove a\nadd b stop,0,9,9\n"))
        for line, error in [
                ("insert 4 turn 0 6", (Wrong, 0)), (f"insert {'9' * 40} turn 0 6", (Wrong, 0)),
                ("insert 0 remove a", (Broken, 0)),
                ("insert 3 remove b", (Broken, 3)), ("insert 0 add a stop,0,0,9", (Broken, 1)),
                ("insert 1 add b stop,0,0,1", (Broken, 2)),
                ("insert 00 turn 0 6", (NoCommand,)), ("insert 01 turn 0 6", (NoCommand,)),
                ("insert 03 turn 0 6", (NoCommand,)),
                (f"insert {'0' * 39}1 turn 0 6", (NoCommand,)), (f"insert {'9' * 41} turn 0 6", (NoCommand,)),
                ("insert -1 turn 0 6", (NoCommand,)), ("insert -0 turn 0 6", (NoCommand,)),
                (f"insert -{'9' * 40} turn 0 6", (NoCommand,)),
                ("insert 0 back", (NoCommand,)), ("insert 0 insert 0 beat 1", (NoCommand,)),
                ("insert 9 turn 1 6", (NoCommand,))]:
            told = desk()
            before = [told.execute(query) for query in QUERIES]
            self.assertEqual(raised(lambda: told.execute(line)), error, line)
            self.assertEqual([told.execute(query) for query in QUERIES], before)
            self.assertEqual(told.execute("again"), "turn 0 1")
        told = desk()
        told.execute("insert 3 beat 0")
        self.assertEqual(raised(lambda: told.execute("again")), (Nothing,))

    def test_errors_of_the_book(self):
        desk = self.told(2, "add a wish,0,9,9,1", "add s stop,1,-4,4", "turn 0 5", "back")
        before = [desk.execute(query) for query in QUERIES]
        for line, error in [
                ("add a stop,0,9,9", (Taken, "a")), ("remove b", (Unknown, "b")), ("move b 0", (Unknown, "b")),
                (f"move a {'9' * 40}", (TooFar,)), ("move s 5", (NotAllowed, 1)), ("turn 1 -5", (NotAllowed, 1)),
                ("add b bar,0,1,1,2", (NotAllowed, 1))]:
            self.assertEqual(raised(lambda: desk.execute(line)), error)
            self.assertEqual([desk.execute(query) for query in QUERIES], before)
        self.check(desk, ("again", "turn 0 5"))
        full = self.told(1, *["turn 0 1"] * 100)
        for line in ("turn 0 1", "remove a", "insert 0 beat 1", "insert 100 remove a"):
            self.assertEqual(raised(lambda: full.execute(line)), (TooMany, 100))
        self.assertEqual(raised(lambda: full.execute("insert 101 beat 1")), (Wrong, 0))
        for line in ("turn 1 1", "insert 0 beat", "beat", "remove"):
            self.assertEqual(raised(lambda: full.execute(line)), (NoCommand,))
        self.check(full, ("standing", "100"), ("back", "turn 0 1"))


def no_commands():
    """Return new values that are no lines of a Desk of two dials."""
    lines = ["range", "range ", "range 2", "range -1", "range 0 1", "range a", "range 0 ", "range  0", " range 0",
             "range 00", "range 0\n",
             "range " + "0" * 41, "range " + "9" * 5000, "Range 0", "range,0", "hold", "hold 0", "hold 0 ", "hold 2 0",
             "hold -1 0",
             "hold 0 0 0", "hold 0  0", "hold  0 0", "hold 0 0 ", " hold 0 0", "hold a 0", "hold 0 a", "hold 0 0\n",
             "hold 0,0", "hold 0 1 never",
             "insert", "insert ", "insert 0", "insert 0 ", "insert 0 beat", "insert 0  beat 1", "insert  0 beat 1",
             " insert 0 beat 1",
             "insert beat 1", "insert 0 beat 1 ", "insert 0 beat 1\n", "insert 0 beat 1 1", "insert a beat 1",
             "insert 0 add a", "insert 0 log",
             "insert 0 turn 2 0", "insert 0,beat 1", "Insert 0 beat 1", "", " ", "\n", "-", "rest", "never", "up 0 1",
             "ok", "board", "size", "since",
             "at_rest", "past 0", "copied", "help", "exit", "beat 1\nbeat 1", "beat", "beat 1 1", "beat -1", "beat  1",
             "beat 01", "beat +1",
             "beat 1000000000000000000001", "turn 2 0", "turn 0", "turn 0 -0", "add a wish,2,0,0,1", "add a b",
             "remove", "remove A", "move a",
             "move a 1 ", "move a b", "add a wish,0,0,0,1 "]
    for word in QUERIES + ["back", "again"]:
        lines += [word + " ", " " + word, word + "\n", "\n" + word, word.upper(), word + " 0", word + " " + word,
                  word[:-1], word + "s", word + ","]
    lines += [f"hold 0 {text}" for text in NO_INTEGERS] + [f"range {text}" for text in NO_INTEGERS]
    lines += [f"hold {text} 0" for text in NO_INTEGERS] + [f"insert {text} beat 1" for text in NO_INTEGERS]
    return lines + odd_things() + [0, 1, b"left", ["left"], ("left",), {"left": 1}, ("beat", 1), [None], b"beat 1"]


class NoCommands(unittest.TestCase):
    def test_all(self):
        for lines in (["turn 0 1", "back"], ["add a wish,0,9,9,1", "add s stop,1,-4,4", "beat 2", "turn 0 5", "back"]):
            desk = Desk(2)
            for line in lines:
                desk.execute(line)
            before = [desk.execute(query) for query in QUERIES]
            for line in no_commands():
                self.assertEqual(raised(lambda: desk.execute(line)), (NoCommand,), repr(line)[:100])
            self.assertEqual([desk.execute(query) for query in QUERIES], before)
            self.assertEqual(desk.execute("again"), lines[-2])

    def test_dials_that_there_are(self):
        for size in (1, 3, 8):
            desk = Desk(size)
            for dial in range(size):
                self.assertEqual([desk.execute(f"range {dial}"), desk.execute(f"hold {dial} 0"),
                                  desk.execute(f"turn {dial} 0")],
                                 ["- -", "0 0", "ok"])
            for line in (f"range {size}", f"hold {size} 0", f"turn {size} 0", f"insert 0 turn {size} 0"):
                self.assertEqual(raised(lambda: desk.execute(line)), (NoCommand,))


class Answered(unittest.TestCase):
    def test_answers(self):
        for line, answer in [
                ("next", "down 1 3"), ("standing", "0,10"), ("runs", "down 1 10"), ("beat 4", "4"),
                ("back", "turn 1 10"),
                ("remove t", "ok"), ("insert 0 turn 0 3", "ok"), ("log", LOG),
                ("terms", "a wish,0,0,0,1; t tie,0,1,0,0,3"),
                ("range 0", "0 0"), ("hold 1 5", "1 1"), ("done", "0"), ("left", "10"), ("strain", "30"),
                ("least", "0")]:
            for _ in range(2):
                self.assertEqual(answered(2, LOG, line), answer)
        self.assertEqual([answered(1, "", "standing"), answered(8, "", "terms"), answered(3, "", "log")],
                         ["0", "-", ""])

    def test_nothing_is_kept(self):
        for _ in range(3):
            self.assertEqual([answered(2, LOG, "turn 0 7"), answered(2, LOG, "standing"), answered(2, LOG, "back")],
                             ["ok", "0,10", "turn 1 10"])
            self.assertEqual(raised(lambda: answered(2, LOG, "again")), (Nothing,))

    def test_errors_of_the_log_first(self):
        for line in ["next", "nothing", "", None, "remove a", 5]:
            for text in [thing for thing in odd_things() if not isinstance(thing, str)]:
                self.assertEqual(raised(lambda: answered(2, text, line)), (NoText,))
            for text, at in [("next\n", 0), (LOG + "beat 1", 3), (LOG + "add a wish,0,0,0,1\n", 3), (LOG + "\n", 3),
                             ("beat 0\n" * 101, 100)]:
                self.assertEqual(raised(lambda: answered(2, text, line)), (Broken, at))

    def test_then_those_of_the_desk(self):
        for line in no_commands():
            self.assertEqual(raised(lambda: answered(2, LOG, line)), (NoCommand,))
        for line, error in [("add a stop,0,0,0", (Taken, "a")), ("remove b", (Unknown, "b")),
                            ("insert 4 beat 1", (Wrong, 0)),
                            ("insert 0 turn 0 1", None), ("insert 0 remove a", (Broken, 0)), ("again", (Nothing,)),
                            ("add b stop,0,1,1", (NotAllowed, 1)), (f"move a {MOST + 1}", (TooFar,))]:
            self.assertEqual(raised(lambda: answered(2, LOG, line)), error)
        self.assertEqual(raised(lambda: answered(1, "beat 0\n" * 100, "beat 0")), (TooMany, 100))
        self.assertEqual(raised(lambda: answered(1, "", "back")), (Nothing,))


if __name__ == "__main__":
    unittest.main()
