"""What rows want of their variables by one mark, and what they give by it."""

from signskept.dresses import check_mark
from signskept.errors import NoPlace, NotSimple
from signskept.programs import check_program, is_place


def unfit(program, mark):
    """The places of the rows that are not simple in a mark, ascending."""
    check_program(program)
    check_mark(mark)
    return [place for place in program.places() if not is_fit(program, program[place], mark)]


def wanted(program, place, mark):
    """The variables that a row wants by a mark, ascending, each once."""
    return wanted_by(program, _simple_row(program, place, mark), mark)


def gift(program, place, mark):
    """The variable that a row changes, and those all of which must have the mark for it; or None."""
    return gift_of(program, _simple_row(program, place, mark), mark)


def check_simple(program, mark):
    """Refuse a program that is not simple in a mark, with the first row that is not."""
    places = unfit(program, mark)
    if places:
        raise NotSimple(places[0])


def is_fit(program, row, mark):
    """Whether a row is simple in a mark."""
    if row[0] == "move":
        return True
    if row[0] == "widen":
        return row[1] == mark
    operation = program.operation(row[2])
    rows = _giving(operation, mark)
    if not _asking(operation, mark) or len(rows) > 1:
        return False
    return all([_asks_no_other(wants, mark) for wants in rows])


def wanted_by(program, row, mark):
    """The variables that a row that is simple in a mark wants by it, ascending, each once."""
    if row[0] != "do":
        return []
    return _named(row, _asking(program.operation(row[2]), mark)[0])


def gift_of(program, row, mark):
    """What gift tells of a row that is simple in a mark."""
    if row[0] == "move":
        return (row[1], [row[2]])
    if row[0] == "widen":
        return (row[2], [])
    if row[1] is None:
        return None
    rows = _giving(program.operation(row[2]), mark)
    if not rows:
        return (row[1], None)
    return (row[1], _named(row, rows[0]))


def _simple_row(program, place, mark):
    """The row at a place; one that is not simple in a mark is refused."""
    check_program(program)
    if not is_place(program, place):
        raise NoPlace(place)
    check_mark(mark)
    row = program[place]
    if not is_fit(program, row, mark):
        raise NotSimple(place)
    return row


def _asks_no_other(wants, mark):
    """Whether a row of wants asks no mark but this one."""
    return all([want in ("", mark) for want in wants])


def _asking(operation, mark):
    """The needs of an operation that ask no mark but this one."""
    return [wants for wants in operation.needs if _asks_no_other(wants, mark)]


def _giving(operation, mark):
    """The rows of wants by which the answer of an operation gets a mark."""
    return operation.z if mark == "z" else operation.s


def _named(row, wants):
    """The operands of a row of which something is wanted, ascending, each once."""
    return sorted({name for name, want in zip(row[3:], wants) if want != ""})
