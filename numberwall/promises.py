"""Promises about programs, and their texts."""

from numberwall.cursors import Cursor
from numberwall.errors import BadText


def promise_of(text):
    """The tuple (program, "to" or "never", start, goal, counters) of a promise text."""
    if not isinstance(text, str):
        raise BadText(0)
    cursor = Cursor(text)
    program = cursor.read_new(())
    start = cursor.read_new(())
    word = cursor.read_word(("to", "never"))
    goal = cursor.read_new(())
    counters = None
    if word == "never" and cursor.next_sign() != "":
        cursor.read_word(("by",))
        counters = _read_names(cursor)
    cursor.read_end()
    return (program, word, start, goal, counters)


def _read_names(cursor):
    """The names up to the end, one at least."""
    names = [cursor.read_new(())]
    while cursor.next_sign() != "":
        names.append(cursor.read_new(()))
    return tuple(names)


def promise_text(promise):
    """The text of a promise, with single spaces."""
    program, word, start, goal, counters = promise
    by = [] if counters is None else ["by", *counters]
    return " ".join([program, start, word, goal, *by])
