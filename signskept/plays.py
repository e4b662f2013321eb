"""Runs of bits along roads."""

from signskept.checks import is_between, is_run
from signskept.effects import begin_dresses, effect_of, plan_of, replaced, step_behind
from signskept.errors import BadNumber, BadRun
from signskept.operations import wants_hold
from signskept.roads import check_road
from signskept.wides import Wide, check_sizes, fresh_bits, ones, true_marks, widened_bits


def is_true(program, road, run, *, narrow, wide):
    """Whether a value is a true run along a road."""
    check_road(program, road)
    check_sizes(narrow, wide)
    return _gone_through(program, road, run, narrow, wide) is not None


def bits_for(program, road, *, narrow, wide):
    """A true run along a road of which just what is sure is true everywhere."""
    check_road(program, road)
    check_sizes(narrow, wide)
    dresses = begin_dresses(program)
    starts = [fresh_bits(marks, narrow, wide) for marks in dresses]
    answers = []
    for row, step in _steps_along(program, road):
        _, given = effect_of(step, dresses)
        if row[0] == "do":
            answers.append(fresh_bits(given, narrow, wide))
        _, dresses = step_behind(step, dresses)
    return tuple(starts), tuple(answers)


def _steps_along(program, road):
    """Tuples of each row that is done along a road and its step in the plan of the program."""
    plan = plan_of(program)
    return [pair for word in road for pair in zip(program.rows(word), plan[word])]


def _has_form(program, steps, run, wide):
    """Whether a value tells registers for all variables, and for all operations of some steps."""
    if not is_run(run, ones(wide)):
        return False
    asked = [row for row, _ in steps if row[0] == "do"]
    return len(run[0]) == len(program.variables) and len(run[1]) == len(asked)


def _gone_through(program, road, run, narrow, wide):
    """What happens with a run, or None if it is not true.

    That is a list of the rows of bits ahead of each step and behind the road, one of the rows of
    marks that are true of them, and one of the indexes of the steps whose need fails.
    """
    steps = _steps_along(program, road)
    if not _has_form(program, steps, run, wide):
        return None
    bits, answers = run
    marks = tuple([true_marks(one, narrow, wide) for one in bits])
    if not wants_hold(begin_dresses(program), marks):
        return None
    all_bits, marks_along, fails = [bits], [marks], []
    used = 0
    for index, (row, step) in enumerate(steps):
        failed, given = effect_of(step, marks)
        if failed:
            fails.append(index)
        if row[0] == "do":
            answer = answers[used]
            used = used + 1
        else:
            answer = _carried(row, bits[step[1][0]], narrow, wide)
        true = true_marks(answer, narrow, wide)
        if not wants_hold((given,), (true,)):
            return None
        bits, marks = replaced(bits, step[0], answer), replaced(marks, step[0], true)
        all_bits.append(bits)
        marks_along.append(marks)
    return all_bits, marks_along, fails


def _carried(row, bits, narrow, wide):
    """The bits of a register behind a move or a widening of it."""
    if row[0] == "widen":
        return widened_bits(bits, row[1], narrow, wide)
    return bits


class Play:
    """A true run, gone through step by step."""

    def __init__(self, program, road, run, *, narrow, wide):
        check_road(program, road)
        check_sizes(narrow, wide)
        found = _gone_through(program, road, run, narrow, wide)
        if found is None:
            raise BadRun(run)
        self._bits, self._marks, self._fails = found
        self._narrow = narrow
        self._wide = wide

    def __len__(self):
        # The last row of bits is the one behind the road.
        return len(self._bits[1:])

    def wides(self, index):
        """The Wides of all variables ahead of a step, or behind the road."""
        self._check_index(index)
        return [Wide(bits, narrow=self._narrow, wide=self._wide) for bits in self._bits[index]]

    def dresses(self, index):
        """The marks that are true of all variables ahead of a step, or behind the road."""
        self._check_index(index)
        return self._marks[index]

    def fails(self):
        """The indexes of the steps whose need does not hold for the marks that are true then."""
        return list(self._fails)

    def _check_index(self, index):
        """Refuse what is neither the index of a step nor the number of steps."""
        if not is_between(index, 0, len(self)):
            raise BadNumber(index)
