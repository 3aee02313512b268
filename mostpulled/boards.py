"""Boards: a size and a list of terms that never change."""

from mostpulled.errors import Wrong
from mostpulled.kinds import is_integer, is_term
from mostpulled.terms import argument, distance, has_force, mirrored, moved


class Board:
    """A board of some dials, with the wishes, ties, stops and bars between them."""

    def __init__(self, size, terms):
        if not is_integer(size) or not 1 <= size <= 8:
            raise Wrong(0)
        if not _are_terms(terms, size):
            raise Wrong(1)
        self._size = size
        self._terms = list(terms)

    @classmethod
    def free(cls, size):
        """Return the Board of this size without terms."""
        return cls(size, [])

    @property
    def size(self):
        """The number of dials."""
        return self._size

    def __len__(self):
        return len(self._terms)

    def __eq__(self, other):
        return isinstance(other, Board) and self._size == other._size and self._terms == other._terms

    def __repr__(self):
        return f"Board({self._size}, {self._terms!r})"

    def terms(self):
        """Return the list of the terms."""
        return list(self._terms)

    def left(self, standing):
        """Return the least index of a stop or bar that the standing leaves, None if it is allowed."""
        for at, term in enumerate(self._terms):
            if not has_force(term) and distance(term, argument(term, standing)) != 0:
                return at
        return None

    def strain(self, standing):
        """Return the strain of the standing, None if it is not allowed."""
        if self.left(standing) is not None:
            return None
        forced = [term for term in self._terms if has_force(term)]
        return sum([term[-1] * distance(term, argument(term, standing)) for term in forced])

    def also(self, term):
        """Return the Board with one more term, at the end."""
        return self._with_terms(self._terms + [term])

    def without(self, at):
        """Return the Board without the term of this index."""
        return self._with_terms(self._terms[:at] + self._terms[at + 1:])

    def moved(self, at, by):
        """Return the Board with the range of the term of this index moved by an integer."""
        return self._with_terms(self._terms[:at] + [moved(self._terms[at], by)] + self._terms[at + 1:])

    def mirrored(self):
        """Return the Board with the ranges of all terms mirrored at 0."""
        return self._with_terms([mirrored(term) for term in self._terms])

    def _with_terms(self, terms):
        """Return the Board of this size with other terms.

        They are not checked: a caller who goes somewhat beyond the limits of a board gets no error here.
        """
        board = Board(self._size, [])
        board._terms = terms
        return board


def _are_terms(thing, size):
    """Return whether thing, any value, is a list of terms that a board of this size may have."""
    if not isinstance(thing, list) or len(thing) > 24:
        return False
    return all([is_term(term, size) for term in thing])
