"""Terms, standings, deeds and logs as texts, written and read."""

from mostpulled.books import Book
from mostpulled.errors import Broken, NoText, PullError
from mostpulled.kinds import is_deed, is_standing, is_term


def show_term(term):
    """Return the text of a term."""
    return ",".join([str(part) for part in term])


def show_standing(standing):
    """Return the text of a standing."""
    return ",".join([str(setting) for setting in standing])


def show_deed(deed):
    """Return the text of a deed."""
    return " ".join([show_term(part) if isinstance(part, tuple) else str(part) for part in deed])


def show_log(book):
    """Return the text of the log of a book."""
    return "".join([show_deed(deed) + "\n" for deed in book.log()])


def read_term(text, size):
    """Return the term that a text, any value, writes."""
    term = _term_of(text) if isinstance(text, str) else None
    if not is_term(term, size):
        raise NoText()
    return term


def read_standing(text, size):
    """Return the standing that a text, any value, writes."""
    standing = tuple([integer_of(part) for part in text.split(",")]) if isinstance(text, str) else None
    if not is_standing(standing, size):
        raise NoText()
    return standing


def read_deed(text, size):
    """Return the deed that a text, any value, writes."""
    deed = _deed_of(text) if isinstance(text, str) else None
    if not is_deed(deed, size):
        raise NoText()
    return deed


def read_log(text, size):
    """Return the Book in which the deeds of a log, any value, were done; Broken tells the first line that fails."""
    if not isinstance(text, str):
        raise NoText()
    book = Book(size)
    # Behind the last line feed there is nothing, not even an empty line.
    lines = text.split("\n")
    for at, line in enumerate(lines[:-1]):
        try:
            book.do(read_deed(line, size))
        except PullError:
            raise Broken(at)
    if lines[-1] != "":
        raise Broken(len(lines) - 1)
    return book


def integer_of(text):
    """Return the integer that a text writes in at most 40 digits, None if it is not such a text."""
    digits = text.removeprefix("-")
    # A number that is too long to be converted never gets there.
    if not 1 <= len(digits) <= 40 or not all(["0" <= digit <= "9" for digit in digits]):
        return None
    number = int(text)
    return number if str(number) == text else None


def _term_of(text):
    """Return the tuple of the parts of the text of a term, None for those that are no integers."""
    parts = text.split(",")
    return tuple(parts[:1] + [integer_of(part) for part in parts[1:]])


def _deed_of(text):
    """Return the tuple of the parts of the text of a deed, None for those that are no integers."""
    words = text.split(" ")
    if words[0] not in ("add", "remove", "move"):
        return tuple(words[:1] + [integer_of(word) for word in words[1:]])
    read = [_term_of(word) if words[0] == "add" else integer_of(word) for word in words[2:]]
    return tuple(words[:2] + read)
