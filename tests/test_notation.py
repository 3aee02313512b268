"""Points 102 and 103: terms, standings, deeds and logs as texts, written and read."""

import random
import unittest

from mostpulled.boards import Board
from mostpulled.books import Book
from mostpulled.errors import Broken, Nothing, NoText
from mostpulled.notation import (
    read_deed, read_log, read_standing, read_term, show_deed, show_log, show_standing, show_term,
)
from things import MOST, odd_things, raised, terms_made

LONG = int("1234567890" * 4)
# Integers that have no text: each is written in a wrong way, or has more than 40 digits.
NO_INTEGERS = [
    "+1", "01", "00", "-0", "-01", "--1", "-", "", " 1", "1 ", "1\n", "\n1", "1_0", "1.0", "1e3", "0x1", "a", "None",
    "True",
    "1" * 41, "-" + "1" * 41, "9" * 5000, "-" + "9" * 5000, "0" * 41, "1-", "- 1", "1,", "~", "1\\n", "'1'", "(1)",
    "+", "+0",
]


class Example(unittest.TestCase):
    def test_point_103(self):
        self.assertEqual([read_term('wish,0,-3,5,2', 1), show_deed(('turn', 1, -10))],
                         [('wish', 0, -3, 5, 2), 'turn 1 -10'])


TERMS = [
    (("wish", 0, -3, 5, 2), "wish,0,-3,5,2"), (("bar", 0, 1, 0, 0), "bar,0,1,0,0"), (("stop", 7, 0, 10), "stop,7,0,10"),
    (("tie", 1, 0, -MOST, MOST, 30), "tie,1,0,-1000000000000000000,1000000000000000000,30"),
    (("stop", 2, 123456789012345678, 123456789012345678), "stop,2,123456789012345678,123456789012345678"),
]
STANDINGS = [
    ((0,), "0"), ((5, -7), "5,-7"), ((-1, 10, -100, 99), "-1,10,-100,99"), ((LONG, -LONG), f"{LONG},-{LONG}"),
    ((123456789012345678,) * 8, ",".join(["123456789012345678"] * 8)),
]
DEEDS = [
    (("add", "low", ("wish", 0, 0, 0, 1)), "add low wish,0,0,0,1"), (("move", "low", -3), "move low -3"),
    (("turn", 1, 10), "turn 1 10"), (("beat", 4), "beat 4"), (("remove", "low"), "remove low"), (("beat", 0), "beat 0"),
    (("beat", 10 ** 21), "beat 1000000000000000000000"), (("turn", 0, -MOST), "turn 0 -1000000000000000000"),
    (("add", "abcdefgh", ("bar", 1, 0, -5, -5)), "add abcdefgh bar,1,0,-5,-5"),
    (("add", "add", ("stop", 0, 1, 2)), "add add stop,0,1,2"),
    (("remove", "beat"), "remove beat"), (("move", "z", LONG), f"move z {LONG}"),
    (("move", "z", -LONG), f"move z -{LONG}"),
    (("add", "t", ("tie", 0, 1, -9, 9, 30)), "add t tie,0,1,-9,9,30"), (("move", "z", 0), "move z 0"),
]


class Texts(unittest.TestCase):
    def refused(self, read, text, size):
        """Check that a text is refused."""
        before = repr(text)
        self.assertEqual(raised(lambda: read(text, size)), (NoText,), (read.__name__, before[:100], size))
        self.assertEqual(repr(text), before)

    def test_given_texts(self):
        for term, text in TERMS:
            self.assertEqual([show_term(term), read_term(text, 8)], [text, term])
        for standing, text in STANDINGS:
            self.assertEqual([show_standing(standing), read_standing(text, len(standing))], [text, standing])
        for deed, text in DEEDS:
            self.assertEqual([show_deed(deed), read_deed(text, 2)], [text, deed])
            found = read_deed(text, 2)
            self.assertEqual([type(part) for part in found], [type(part) for part in deed])

    def test_drawn_texts(self):
        chance = random.Random(102)
        for at in range(200):
            size = at % 8 + 1
            span = chance.choice([3, 10 ** 17, MOST])
            terms, inner = terms_made(chance, size, 4, span)
            for term in terms:
                self.assertEqual(read_term(show_term(term), size), term)
                self.assertEqual(show_term(read_term(show_term(term), size)), show_term(term))
                deed = ("add", chance.choice(["a", "wish", "abcdefgh"]), term)
                self.assertEqual(read_deed(show_deed(deed), size), deed)
            standing = tuple(setting * chance.choice([1, 1, 10 ** 21]) for setting in inner)
            self.assertEqual(read_standing(show_standing(standing), size), standing)
            for deed in [("turn", size - 1, inner[0]), ("beat", abs(inner[0])), ("move", "q", standing[0])]:
                self.assertEqual(read_deed(show_deed(deed), size), deed)

    def test_40_digits_and_more(self):
        for many in (1, 18, 39, 40):
            for sign in ("", "-"):
                text = sign + "9" * many
                self.assertEqual(read_standing(text, 1), (int(text),))
                self.assertEqual(read_deed("move a " + text, 1), ("move", "a", int(text)))
        for many in (41, 42, 100, 4300, 4301, 9000):
            for sign in ("", "-"):
                self.refused(read_standing, sign + "9" * many, 1)
                self.refused(read_standing, "1," + sign + "9" * many, 2)
                self.refused(read_deed, "move a " + sign + "9" * many, 1)
                self.refused(read_deed, "beat " + "0" * many, 1)
                self.refused(read_term, "stop,0,0," + sign + "9" * many, 1)

    def test_integers_that_are_none(self):
        for text in NO_INTEGERS:
            self.refused(read_standing, text, 1)
            for at in range(3):
                settings = ["5", "6", "7"]
                settings[at] = text
                self.refused(read_standing, ",".join(settings), 3)
            for at in range(1, 6):
                parts = ["tie", "0", "1", "0", "5", "3"]
                parts[at] = text
                self.refused(read_term, ",".join(parts), 2)
                self.refused(read_deed, "add a " + ",".join(parts), 2)
            for deed in (f"move a {text}", f"turn 0 {text}", f"turn {text} 0", f"beat {text}"):
                self.refused(read_deed, deed, 2)

    def test_no_terms(self):
        for text in [
                "", ",", "wish", "wish,", ",wish,0,0,0,1", "wish,0,0,0", "wish,0,0,0,1,", "wish,0,0,0,1,1",
                "wish,,0,0,0,1",
                "Wish,0,0,0,1", "wish,0,0,0,0", "wish,0,0,0,31", "wish,2,0,0,1", "wish,-1,0,0,1", "wish,0,1,0,1",
                "hope,0,0,0,1",
                "wish 0 0 0 1", "wish,0,0,0,1\n", "\nwish,0,0,0,1", " wish,0,0,0,1", "wish,0,0,0,1 ", "wish, 0,0,0,1",
                "('wish', 0, 0, 0, 1)",
                "wish,0,0,1000000000000000001,1", "wish,0,-1000000000000000001,0,1", "tie,0,0,0,0,1", "tie,0,2,0,0,1",
                "tie,2,0,0,0,1",
                "tie,0,1,0,0", "stop,0,0,0,1", "stop,0,5", "bar,0,1,0,0,1", "bar,1,1,0,0", "bar,0,1,1,0", "0,0,0,0,1",
                "stop;0;0;0",
                "wish,0,0,0,1,wish,0,0,0,1", "wish,0,0,0,1\nwish,0,0,0,1", "add a wish,0,0,0,1", "stop,0,0,0,"]:
            self.refused(read_term, text, 2)
        self.refused(read_term, "wish,1,0,0,1", 1)
        self.refused(read_term, "bar,0,7,0,0", 7)
        self.assertEqual(read_term("bar,0,7,0,0", 8), ("bar", 0, 7, 0, 0))

    def test_no_standings(self):
        for text, size in [("", 1), ("0,0", 1), ("0", 2), ("0,", 1), ("0,", 2), (",0", 2), (",", 2), ("0,,0", 2),
                           ("0 0", 2), ("0, 0", 2),
                           ("(0,)", 1), ("0,0,0", 2), ("0,0\n", 2), ("\n0,0", 2), ("0;0", 2), ("0,\n0", 2),
                           ("0,0,", 2), ("0" * 2, 2)]:
            self.refused(read_standing, text, size)

    def test_no_deeds(self):
        for text in [
                "", " ", "add", "add ", "add a", "add a ", "add  a wish,0,0,0,1", "add a  wish,0,0,0,1",
                " add a wish,0,0,0,1",
                "add a wish,0,0,0,1 ", "add a wish,0,0,0,1\n", "add a\nwish,0,0,0,1", "\nadd a wish,0,0,0,1",
                "add a wish,0,0,0,1 1",
                "add A wish,0,0,0,1", "add abcdefghi wish,0,0,0,1", "add a1 wish,0,0,0,1", "add 1 wish,0,0,0,1",
                "add a, wish,0,0,0,1",
                "add wish,0,0,0,1 a", "add wish,0,0,0,1", "Add a wish,0,0,0,1", "add a wish,0,0,0,31",
                "add a wish,2,0,0,1", "add a b",
                "add a wish 0 0 0 1", "add,a,wish,0,0,0,1", "remove", "remove ", "remove A", "remove a b", "remove a ",
                "remove  a",
                "remove abcdefghi", "remove 0", "remove a\n", "Remove a", "move a", "move a ", "move a 1 ",
                "move a  1", "move a 1 1",
                "move 1 a", "move 1 1", "move A 1", "move a b", "move  1", "turn 0", "turn 0 ", "turn 2 0",
                "turn -1 0", "turn 0 0 0",
                "turn a 0", "turn 0 a", "turn  0 0", "turn 0  0", "turn 0 0 ", "turn 0 1000000000000000001",
                "turn 0 -1000000000000000001", "turn", "beat", "beat ", "beat -1", "beat 1000000000000000000001",
                "beat 1 1", "beat  1",
                "beat 1 ", " beat 1", "beat 1\n", "beat a", "Beat 1", "beat,1", "beat\t1", "beats 1", "back", "again",
                "log", "insert 0 beat 1",
                "('beat', 1)", "beat 1\nbeat 1", "beat 1; beat 1", "turn 0,1 3"]:
            self.refused(read_deed, text, 2)
        self.refused(read_deed, "turn 1 0", 1)
        self.assertEqual(read_deed("turn 7 0", 8), ("turn", 7, 0))

    def test_values_that_are_no_strings(self):
        things = [thing for thing in odd_things() if not isinstance(thing, str)]
        for thing in things + [("wish", 0, 0, 0, 1), (0,), [0], 0, ("beat", 1), b"beat 1", b"0", b"wish,0,0,0,1",
                               ["0"], ("0",)]:
            for read in (read_term, read_standing, read_deed, read_log):
                self.refused(read, thing, 1)
        for thing in odd_things():
            if not isinstance(thing, str) or thing != "wish,0,0,5,3":
                self.refused(read_term, thing, 1)
            self.refused(read_deed, thing, 1)


class Logs(unittest.TestCase):
    def made(self, size, *deeds):
        """Return a Book of deeds."""
        book = Book(size)
        for deed in deeds:
            book.do(deed)
        return book

    def test_written_and_read(self):
        deeds = [("add", "low", ("wish", 0, 0, 0, 1)), ("add", "tie", ("tie", 0, 1, 0, 0, 3)), ("turn", 1, 10),
                 ("beat", 4),
                 ("move", "low", -3), ("beat", 10 ** 21), ("remove", "low")]
        book = self.made(2, *deeds)
        text = ("add low wish,0,0,0,1\nadd tie tie,0,1,0,0,3\nturn 1 10\nbeat 4\nmove low -3\n"
                "beat 1000000000000000000000\nremove low\n")
        self.assertEqual(show_log(book), text)
        read = read_log(text, 2)
        self.assertEqual([type(read), read, read.log(), read.standing, read.done()],
                         [Book, book, deeds, book.standing, book.done()])
        self.assertEqual(raised(read.again), (Nothing,))
        self.assertEqual(show_log(read), text)

    def test_no_effect_on_the_book(self):
        book = self.made(1, ("turn", 0, 1), ("turn", 0, 2), ("turn", 0, 3))
        book.back()
        for _ in range(2):
            self.assertEqual(show_log(book), "turn 0 1\nturn 0 2\n")
        read = read_log(show_log(book), 1)
        self.assertEqual([read, raised(read.again)], [book, (Nothing,)])
        read.do(("turn", 0, 9))
        self.assertEqual([book.again(), book.standing, len(book)], [("turn", 0, 3), (6,), 3])

    def test_empty(self):
        for size in range(1, 9):
            self.assertEqual([show_log(Book(size)), read_log("", size)], ["", Book(size)])
            self.assertEqual(read_log("", size).board(), Board.free(size))

    def test_broken(self):
        for text, at in [
                ("\n", 0), ("\n\n", 0), ("beat 1", 0), ("beat 1\nbeat 1", 1), ("beat 1\n\n", 1), ("\nbeat 1\n", 0),
                (" ", 0), (" \n", 0),
                ("beat 1\n\nbeat 1\n", 1), ("beat 1\nbeat 1\n ", 2), ("beat 1\nbeat 1\nx", 2), ("x", 0),
                ("beat 1 \n", 0),
                ("beat 1\nbeat -1\nx", 1), ("turn 0 1\nturn 1 1\n", 1), ("remove a\n", 0), ("beat 1\nremove a\n", 1),
                ("add a wish,0,0,0,1\nadd a wish,0,0,0,1\n", 1), ("add a stop,0,1,2\n", 0),
                ("turn 0 1\nadd a stop,0,1,2\nturn 0 2\n", 2),
                ("add a wish,0,0,0,1\nmove a 1000000000000000001\n", 1),
                ("add a wish,0,0,0,1\nmove a 1\nmove b 1\nx", 2),
                ("beat 0\n" * 100 + "beat 0\n", 100), ("beat 0\n" * 150, 100), ("beat 0\n" * 100 + "x\n", 100),
                ("beat 0\n" * 100 + "\n", 100), ("beat 0\n" * 100 + "beat 0", 100),
                ("beat 0\n" * 99 + "remove a\n", 99),
                ("beat 0\n" * 3 + "beat 0\n".replace("\n", "\\n"), 3), ("beat 0;beat 0\n", 0), ("x\n" * 200, 0),
                ("-\n", 0), ("log\n", 0),
                ("back\n", 0), ("turn 0 1\nback\n", 1), ("beat 0\n" + "9" * 9000, 1), ("beat " + "9" * 9000 + "\n", 0)]:
            self.assertEqual(raised(lambda: read_log(text, 1)), (Broken, at), text[:60])
        self.assertEqual(len(read_log("beat 0\n" * 100, 1)), 100)

    def test_25_terms(self):
        names = [first + second for first in "ab" for second in "abcdefghijklm"]
        lines = [f"add {name} wish,0,0,0,1\n" for name in names[:25]]
        self.assertEqual(raised(lambda: read_log("".join(lines), 1)), (Broken, 24))
        self.assertEqual(len(read_log("".join(lines[:24]), 1).board()), 24)


if __name__ == "__main__":
    unittest.main()
