"""Functions that were made by different books."""

from signskept.books import alone, beyond_starts, is_book_for
from signskept.errors import BadBooks
from signskept.functions import check_group, is_function
from signskept.tables import is_right


def clashes(group, books):
    """What one side of a call counts on and the other one does not promise, ascending."""
    _check_books(group, books)
    found = [("", group.entry, at, mark) for at, mark in beyond_starts(group, books[group.entry])]
    for caller in group.words:
        for _, callee in group.calls(caller):
            found.extend(_clashes_between(caller, callee, books))
    return sorted(set(found))


def keepers(group, books):
    """The functions that keep their books, ascending."""
    _check_books(group, books)
    return [word for word in group.words if is_right(alone(group, word, books[word]))]


def _check_books(group, thing):
    """Refuse what is no Group, and what is no dict of all its functions and books for it."""
    check_group(group)
    if not isinstance(thing, dict) or len(thing) != len(group.words):
        raise BadBooks(thing)
    if not all([is_function(group, word) and is_book_for(group, thing[word]) for word in thing]):
        raise BadBooks(thing)


def _clashes_between(caller, callee, books):
    """The clashes of a function with one that it calls."""
    here, there = books[caller][callee], books[callee][callee]
    found = []
    for at, wants in enumerate(there[0]):
        found.extend([(caller, callee, at, mark) for mark in wants if mark not in here[0][at]])
    found.extend([(caller, callee, -1, mark) for mark in here[1] if mark not in there[1]])
    return found
