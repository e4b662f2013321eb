"""The rows of programs: what form they have, what they change and what they read."""

from signskept.checks import is_word
from signskept.known import is_known, known


def find_operation(word, table):
    """The Operation of any value by a table of words, or a known one; None if there is none."""
    if not isinstance(word, str):
        return None
    if is_known(word):
        return known(word)
    return table.get(word)


def is_row(thing, table):
    """Whether this is a row with known operations or those of a table."""
    if not isinstance(thing, tuple) or len(thing) < 3 or not isinstance(thing[0], str):
        return False
    if thing[0] == "do":
        return _is_do(thing, table)
    if thing[0] == "move":
        return len(thing) == 3 and _are_words(thing[1:])
    if thing[0] == "widen":
        return len(thing) == 3 and _are_words(thing[1:]) and thing[1] in ("z", "s")
    return False


def _is_do(row, table):
    """Whether a tuple that begins with "do" is the row of an operation."""
    operation = find_operation(row[2], table)
    if operation is None or operation.arity != len(row) - 3:
        return False
    return _are_words(row[3:]) and (row[1] is None or is_word(row[1]))


def _are_words(things):
    """Whether all of these are words."""
    return all([is_word(thing) for thing in things])


def changed_by(row):
    """The variable that a row changes, or None."""
    if row[0] == "widen":
        return row[2]
    return row[1]


def read_by(row):
    """The variables that a row reads, in order."""
    if row[0] == "do":
        return list(row[3:])
    return [row[2]]


def variables_in(rows):
    """The variables that stand in some rows, ascending."""
    found = []
    for row in rows:
        found.extend(read_by(row))
        if changed_by(row) is not None:
            found.append(changed_by(row))
    return sorted(set(found))
