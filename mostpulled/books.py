"""Books: a board and its standing, kept over calls by deeds that can be undone, done again and inserted.

What a deed leaves is a tuple (terms, standing, beats): the tuple of the tuples (name, term) in ascending order, the
standing, and how many beats this deed did.
"""

from mostpulled.beats import rest, run
from mostpulled.boards import Board
from mostpulled.errors import Broken, NoDeed, Nothing, PullError, Taken, TooFar, TooMany, Unknown, Wrong
from mostpulled.gains import check_allowed, stepped
from mostpulled.kinds import is_deed, is_integer, is_value
from mostpulled.steps import best_step
from mostpulled.terms import ends_of, moved


class Book:
    """A book of some dials, with a log of deeds."""

    def __init__(self, size):
        if not is_integer(size) or not 1 <= size <= 8:
            raise Wrong(0)
        self._size = size
        self._log = []
        # What each number of deeds of the log leaves, from none to all.
        self._left = [((), (0,) * size, 0)]
        # The deeds that were undone, the last one at the end, each with what it leaves.
        self._undone = []

    @property
    def size(self):
        """The number of dials."""
        return self._size

    @property
    def standing(self):
        """The standing."""
        return self._left[-1][1]

    def __len__(self):
        return len(self._log)

    def __eq__(self, other):
        return isinstance(other, Book) and self._size == other._size and self._log == other._log

    def do(self, deed):
        """Do a deed and return how many beats it did."""
        if not is_deed(deed, self._size):
            raise NoDeed()
        if len(self._log) >= 100:
            raise TooMany(100)
        self._add(deed, _left_by(deed, self._left[-1], self._size))
        self._undone = []
        return self._left[-1][2]

    def back(self):
        """Undo the last deed and return it."""
        if not self._log:
            raise Nothing()
        deed = self._log.pop()
        self._undone.append((deed, self._left.pop()))
        return deed

    def again(self):
        """Do the deed that was undone last once more and return it."""
        if not self._undone:
            raise Nothing()
        deed, left = self._undone.pop()
        self._add(deed, left)
        return deed

    def insert(self, at, deed):
        """Put a deed into the log before the one of this index and do all later ones once more."""
        if not is_integer(at) or not 0 <= at <= len(self._log):
            raise Wrong(0)
        if len(self._log) >= 100:
            raise TooMany(100)
        later = [deed] + self._log[at:]
        # What raises an error does so before anything is kept.
        self._left = _all_left(self._left[:at + 1], later, self._size)
        self._log = self._log[:at] + later
        self._undone = []

    def log(self):
        """Return the list of the deeds that are done and not undone."""
        return list(self._log)

    def terms(self):
        """Return the list of the tuples (name, term) in ascending order of the names."""
        return list(self._left[-1][0])

    def board(self):
        """Return the Board of the terms."""
        return _board(self._left[-1][0], self._size)

    def at_rest(self):
        """Return whether the standing is at rest."""
        return _is_rest(self._left[-1], self._size)

    def left(self):
        """Return the number of beats to rest."""
        beats, _ = rest(self.board(), self.standing)
        return beats

    def done(self):
        """Return the number of all beats that the deeds of the log did."""
        return sum([beats for _, _, beats in self._left])

    def since(self):
        """Return from which number of deeds of the log on the standing was always at rest, None if it is not now."""
        first = None
        for count in range(len(self._log), -1, -1):
            if not _is_rest(self._left[count], self._size):
                return first
            first = count
        return first

    def past(self, count):
        """Return a Book with so many deeds of the log, the first ones, and nothing to do again."""
        if not is_integer(count) or not 0 <= count <= len(self._log):
            raise Wrong(0)
        book = Book(self._size)
        book._log = self._log[:count]
        book._left = self._left[:count + 1]
        return book

    def copied(self):
        """Return a Book with the same log, and the same deeds to do again, that goes on independently."""
        book = self.past(len(self._log))
        book._undone = list(self._undone)
        return book

    def _add(self, deed, left):
        """Put a deed behind the log, with what it leaves."""
        self._log.append(deed)
        self._left.append(left)


def _board(terms, size):
    """Return the Board of terms with names."""
    return Board(size, [term for _, term in terms])


def _is_rest(left, size):
    """Return whether what a deed leaves is at rest."""
    terms, standing, _ = left
    return best_step(_board(terms, size), standing) is None


def _all_left(before, deeds, size):
    """Return what each number of deeds leaves, by what the first ones leave and the deeds behind them.

    Broken tells the index of the first one that is no deed or raises an error.
    """
    found = list(before)
    for deed in deeds:
        if not is_deed(deed, size):
            raise Broken(len(found) - 1)
        try:
            found.append(_left_by(deed, found[-1], size))
        except PullError:
            raise Broken(len(found) - 1)
    return found


def _left_by(deed, before, size):
    """Return what a deed leaves, by what is left before it; raise the errors of the deed."""
    terms, standing, _ = before
    if deed[0] == "beat":
        beats, standing = run(_board(terms, size), standing, deed[1])
        return (terms, standing, beats)
    if deed[0] == "turn":
        standing = stepped(standing, 1, [deed[1]], deed[2])
    else:
        terms = _changed(terms, deed)
    check_allowed(_board(terms, size), standing)
    return (terms, standing, 0)


def _changed(terms, deed):
    """Return the terms with names after one of them is added, removed or moved."""
    word, name = deed[:2]
    found = [term for other, term in terms if other == name]
    others = [(other, term) for other, term in terms if other != name]
    if word == "add":
        if found:
            raise Taken(name)
        if len(terms) >= 24:
            raise TooMany(24)
        return tuple(sorted(others + [(name, deed[2])]))
    if not found:
        raise Unknown(name)
    if word == "remove":
        return tuple(others)
    return tuple(sorted(others + [(name, _within(moved(found[0], deed[2])))]))


def _within(term):
    """Return a term that was moved; raise TooFar if an end is not a value."""
    if not all([is_value(end) for end in ends_of(term)]):
        raise TooFar()
    return term
