"""Desks: books that are told what to do, and asked, by lines of text."""

from mostpulled.beats import runs
from mostpulled.books import Book
from mostpulled.errors import NoCommand, NoText
from mostpulled.holding import forces
from mostpulled.kinds import is_dial
from mostpulled.least import dial_range, strain
from mostpulled.notation import integer_of, read_deed, read_log, show_deed, show_log, show_standing, show_term
from mostpulled.steps import best_step


def _back(book):
    """Undo the last deed and return its text."""
    return show_deed(book.back())


def _again(book):
    """Do the deed that was undone last once more and return its text."""
    return show_deed(book.again())


def _standing(book):
    """Return the text of the standing."""
    return show_standing(book.standing)


def _strain(book):
    """Return the text of the strain."""
    return str(book.board().strain(book.standing))


def _left(book):
    """Return the text of the number of beats to rest."""
    return str(book.left())


def _done(book):
    """Return the text of the number of beats that were done."""
    return str(book.done())


def _terms(book):
    """Return the text of the terms with their names."""
    return _joined([f"{name} {show_term(term)}" for name, term in book.terms()])


def _log(book):
    """Return the text of the log."""
    return show_log(book)


def _next_beat(book):
    """Return the text of the step that the next beat does."""
    step = best_step(book.board(), book.standing)
    return "rest" if step is None else _show_move(step)


def _all_beats(book):
    """Return the text of the runs to rest."""
    board, standing = book.board(), book.standing
    return _joined([_show_move(move) for move in runs(board, standing)])


def _least(book):
    """Return the text of the least strain."""
    return str(strain(book.board()))


ANSWERS = {
    "back": _back, "again": _again, "standing": _standing, "strain": _strain, "left": _left, "done": _done,
    "terms": _terms, "log": _log, "next": _next_beat, "runs": _all_beats, "least": _least,
}


class Desk:
    """A book that executes lines."""

    def __init__(self, size):
        self._book = Book(size)

    def execute(self, line):
        """Do what a line, any value, says and return the answer."""
        if not isinstance(line, str):
            raise NoCommand()
        if line in ANSWERS:
            answer = ANSWERS[line]
            return answer(self._book)
        words = line.split(" ")
        if words[0] == "insert":
            return _insert(self._book, words)
        if words[0] == "range":
            return _range(self._book, words)
        if words[0] == "hold":
            return _hold(self._book, words)
        return _do(self._book, line)


def answered(size, text, line):
    """Return what a Desk whose Book is read from a text, any value, returns for a line, any value."""
    desk = Desk(size)
    desk._book = read_log(text, size)
    return desk.execute(line)


def _do(book, line):
    """Do a deed and return the number of beats if it is for beats."""
    deed = _deed_of(line, book.size)
    beats = book.do(deed)
    return str(beats) if deed[0] == "beat" else "ok"


def _insert(book, words):
    """Insert a deed into the log."""
    at = integer_of(words[1]) if len(words) > 1 else None
    if at is None or at < 0:
        raise NoCommand()
    book.insert(at, _deed_of(" ".join(words[2:]), book.size))
    return "ok"


def _range(book, words):
    """Return the text of the range of a dial in best standings."""
    dial = integer_of(words[1]) if len(words) == 2 else None
    if not is_dial(dial, book.size):
        raise NoCommand()
    return _show_ends(dial_range(book.board(), dial))


def _hold(book, words):
    """Return the text of the forces that hold a dial at a setting."""
    dial, setting = [integer_of(word) for word in words[1:]] if len(words) == 3 else [None, None]
    if not is_dial(dial, book.size) or setting is None:
        raise NoCommand()
    ends = forces(book.board(), dial, setting)
    return "never" if ends is None else _show_ends(ends)


def _deed_of(text, size):
    """Return the deed that a text writes."""
    try:
        return read_deed(text, size)
    except NoText:
        raise NoCommand()


def _show_move(move):
    """Return the text of a way, a group, and a gain or how often."""
    way, group, number = move
    word = "up" if way == 1 else "down"
    return f"{word} {show_standing(group)} {number}"


def _show_ends(ends):
    """Return the text of two ends, of which each may be missing."""
    return " ".join(["-" if end is None else str(end) for end in ends])


def _joined(texts):
    """Return texts as one."""
    return "; ".join(texts) if texts else "-"
