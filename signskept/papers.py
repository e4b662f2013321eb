"""Papers that say what is so of a program, whoever wrote them."""

from signskept.cuts import cost_of, flow_sum
from signskept.effects import plan_of, step_behind
from signskept.errors import (BadFlow, BadFrequencies, BadMark, BadNumber, BadPuts, BadRoad, BadRun,
                              NoEnd, NotSimple, NoVariable)
from signskept.everyroad import is_paper
from signskept.plays import Play, bits_for
from signskept.programs import check_program
from signskept.puts import serves
from signskept.tables import Table, is_closed, worst

# For each kind of a paper how many parts its tuple has.
KINDS = {"right": 2, "wrong": 5, "every": 4, "cheapest": 5}

# The registers for which a paper of a wrong program is written.
NARROW = 2
WIDE = 4


def paper_of(program):
    """A paper that the program is right, or one that it is wrong."""
    check_program(program)
    found = worst(program)
    if found is None:
        return ("right", Table(program).entries)
    run = bits_for(program, found.road, narrow=NARROW, wide=WIDE)
    return ("wrong", found.road, run, NARROW, WIDE)


class Checker:
    """Judges papers about a program, without searching for anything."""

    def __init__(self, program):
        check_program(program)
        self._program = program
        self._accepted = 0

    @property
    def accepted(self):
        """How many papers were accepted."""
        return self._accepted

    def __call__(self, paper):
        """Whether this is a paper, and what it says is so."""
        if not _is_so(self._program, paper):
            return False
        self._accepted = self._accepted + 1
        return True


def _is_so(program, thing):
    """Whether this is a paper about a program that shows what it says."""
    if not isinstance(thing, tuple) or len(thing) == 0 or not isinstance(thing[0], str):
        return False
    if thing[0] not in KINDS or len(thing) != KINDS[thing[0]]:
        return False
    try:
        return _shows(program, thing)
    except (BadRoad, BadNumber, BadRun, BadMark, NoVariable, NotSimple, NoEnd, BadFrequencies, BadPuts, BadFlow):
        return False


def _shows(program, paper):
    """Whether a paper of one of the kinds shows what it says; what is of no form is refused."""
    if paper[0] == "right":
        return _meets_all(program, paper[1])
    if paper[0] == "wrong":
        _, road, run, narrow, wide = paper
        return len(Play(program, road, run, narrow=narrow, wide=wide).fails()) > 0
    if paper[0] == "every":
        _, mark, variable, lines = paper
        return is_paper(program, mark, variable, lines)
    _, mark, frequencies, puts, flow = paper
    if not serves(program, mark, puts):
        return False
    return flow_sum(program, mark, flow, frequencies) == cost_of(program, puts, frequencies)


def _meets_all(program, entries):
    """Whether entries are closed, and no need fails along the block of any of them."""
    if not is_closed(program, entries):
        return False
    plan = plan_of(program)
    return all([not _fails_in(plan[word], dresses) for word, dresses in entries])


def _fails_in(steps, dresses):
    """Whether a need fails along some steps that begin with a row of dresses."""
    for step in steps:
        fails, dresses = step_behind(step, dresses)
        if fails:
            return True
    return False
