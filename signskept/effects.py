"""What the rows of a program do with rows of dresses."""

from signskept.dresses import TEXTS, Dress, dress_rows
from signskept.operations import given_marks, one_holds
from signskept.rows import changed_by, read_by


def begin_dresses(program):
    """The row of dresses at the beginning."""
    starts = program.starts()
    return tuple([starts[name].marks for name in program.variables])


def plan_of(program):
    """For each block a list of steps, one for each row.

    A step is a tuple (target, operands, effects): the index of the variable that is changed, or
    None, the indexes of those that are read, and a dict that tells for each row of marks of these
    whether the need fails, and the marks of the answer. This is worked out once, since many rows
    of dresses are taken through the same few rows.
    """
    effects = {}
    for place in program.places():
        row = program[place]
        if _kind_of(row) not in effects:
            effects[_kind_of(row)] = _effects_of(program, row)
    indexes = {name: at for at, name in enumerate(program.variables)}
    plan = {}
    for word in program.words:
        plan[word] = [_step_of(done, indexes, effects) for done in program.rows(word)]
    return plan


def _kind_of(row):
    """A tuple that is the same for all rows that do the same with dresses."""
    if row[0] == "do":
        return ("do", row[2])
    if row[0] == "move":
        return ("move",)
    return ("widen", row[1])


def _step_of(row, indexes, effects):
    """The step of a row."""
    operands = [indexes[name] for name in read_by(row)]
    return (indexes.get(changed_by(row)), operands, effects[_kind_of(row)])


def effect_of(step, dresses):
    """Whether the need of a step fails with a row of dresses, and the marks of what it answers."""
    _, operands, effects = step
    return effects[tuple([dresses[at] for at in operands])]


def replaced(row, target, part):
    """The row with another part at an index, or the same row for None."""
    if target is None:
        return row
    return row[:target] + (part,) + row[target + 1:]


def step_behind(step, dresses):
    """Whether the need of a step fails with a row of dresses, and the row of dresses behind it."""
    fails, marks = effect_of(step, dresses)
    return fails, replaced(dresses, step[0], marks)


def dresses_behind(steps, dresses):
    """The row of dresses behind some steps."""
    for step in steps:
        _, dresses = step_behind(step, dresses)
    return dresses


def _effects_of(program, row):
    """For each row of marks of what is read: whether the need fails, and the marks of the answer."""
    if row[0] == "move":
        return {(text,): (False, text) for text in TEXTS}
    if row[0] == "widen":
        return {(text,): (False, Dress(text).widened(row[1]).marks) for text in TEXTS}
    operation = program.operation(row[2])
    effects = {}
    for marks in dress_rows(operation.arity):
        effects[marks] = (not one_holds(operation.needs, marks), given_marks(operation, marks))
    return effects
