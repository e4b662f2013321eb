"""Programs and runs of bits, written as texts and read again."""

from signskept.checks import is_run
from signskept.errors import (BadArity, BadBlocks, BadRun, BadStarts, BadTable, BadText,
                              BadWants)
from signskept.operations import Operation
from signskept.programs import Program, check_program, table_of

MOST_SIGNS = 8000
MOST_BITS = 4294967295
DIGITS = "0123456789"
ARITIES = {"0": 0, "1": 1, "2": 2, "3": 3}


def format_program(program):
    """The text of a program."""
    check_program(program)
    starts = program.starts()
    table = table_of(program)
    lines = [f"first {program.first}"]
    for name in program.variables:
        lines.append(f"start {name} {_dashed(starts[name].marks)}")
    for word in sorted(table):
        lines.append(_operation_line(word, table[word]))
    for word in program.words:
        lines.append(" ".join(("block", word) + program.goes(word)))
        for row in program.rows(word):
            lines.append("  " + " ".join(["-" if part is None else part for part in row]))
    return "".join([line + "\n" for line in lines])


def _dashed(marks):
    """A text of marks, with a dash for no marks."""
    return "-" if marks == "" else marks


def _undashed(text):
    """A text of marks as it was ahead of _dashed; what is none stays."""
    return "" if text == "-" else text


def _operation_line(word, operation):
    """The line of an operation of the table."""
    parts = [_wants_text(rows) for rows in (operation.needs, operation.z, operation.s)]
    return "; ".join([f"operation {word} {operation.arity}"] + parts)


def _wants_text(rows):
    """The text of a tuple of rows of wants."""
    if rows == ():
        return "never"
    told = ["always" if row == () else ",".join([_dashed(want) for want in row]) for row in rows]
    return "|".join(told)


def parse_program(text):
    """The program of which this is the text."""
    _check_text(text)
    program = _read_program(text.split("\n"))
    # The lines are read without asking for their order, their blanks and more: so all is asked here.
    if program is None or format_program(program) != text:
        raise BadText(text)
    return program


def _check_text(thing):
    """Refuse what is no text, or one that is too long."""
    if not isinstance(thing, str) or len(thing) > MOST_SIGNS:
        raise BadText(thing)


def _read_program(lines):
    """A program that some lines tell, or None if they tell none."""
    first = None
    starts, table, blocks = {}, {}, {}
    block = None
    for line in lines:
        words = line.split(" ")
        if words[0] == "first":
            first = words[-1]
        elif words[0] == "start" and len(words) == 3:
            starts[words[1]] = _undashed(words[2])
        elif words[0] == "operation":
            table[words[1] if len(words) > 1 else ""] = _read_operation(line.split("; "))
        elif words[0] == "block" and len(words) > 1:
            block = words[1]
            blocks[block] = ((), tuple(words[2:]))
        elif block is not None and line.startswith("  "):
            rows, goes = blocks[block]
            blocks[block] = (rows + (_read_row(words[2:]),), goes)
    try:
        return Program(first, blocks, starts=starts, table=table)
    except (BadTable, BadBlocks, BadStarts):
        return None


def _read_row(words):
    """The tuple that the words of a row tell; a dash for an answer is None."""
    return tuple([None if at == 1 and word == "-" else word for at, word in enumerate(words)])


def _read_operation(parts):
    """The Operation that the parts of a line tell, or None if they tell none."""
    if len(parts) != 4:
        return None
    arity = ARITIES.get(parts[0].split(" ")[-1])
    needs, z, s = [_read_wants(part) for part in parts[1:]]
    try:
        return Operation(arity, needs, z=z, s=s)
    except (BadArity, BadWants):
        return None


def _read_wants(text):
    """The tuple of rows of wants that a text tells; it may be one that no operation has."""
    if text == "never":
        return ()
    rows = text.split("|")
    return tuple([() if row == "always" else _read_wants_row(row) for row in rows])


def _read_wants_row(text):
    """The row of wants that a text tells."""
    return tuple([_undashed(want) for want in text.split(",")])


def format_run(run):
    """The text of a run of bits."""
    if not is_run(run, MOST_BITS):
        raise BadRun(run)
    return "; ".join([_numbers_text(row) for row in run])


def _numbers_text(row):
    """The text of a row of integers."""
    return " ".join([str(number) for number in row])


def parse_run(text):
    """The run of bits of which this is the text."""
    _check_text(text)
    run = tuple([_read_numbers(part) for part in text.split("; ")])
    if not is_run(run, MOST_BITS) or format_run(run) != text:
        raise BadText(text)
    return run


def _read_numbers(text):
    """The tuple of integers that a text tells, or None if it tells none."""
    words = [] if text == "" else text.split(" ")
    if not all([_is_number(word) for word in words]):
        return None
    return tuple([int(word) for word in words])


def _is_number(text):
    """Whether a text has some digits, and no more than the greatest number of a run."""
    if not 1 <= len(text) <= len(str(MOST_BITS)):
        return False
    return all([sign in DIGITS for sign in text])
