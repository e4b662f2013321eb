"""Roads through a program, and what happens along them."""

from signskept.checks import is_between
from signskept.dresses import Dress
from signskept.effects import begin_dresses, plan_of, step_behind
from signskept.errors import BadNumber, BadRoad, NoVariable
from signskept.programs import check_program

MOST_BLOCKS = 40


def is_road(program, thing):
    """Whether this is a road of the program."""
    check_program(program)
    if not isinstance(thing, tuple) or len(thing) == 0:
        return False
    if not all([isinstance(word, str) for word in thing]) or thing[0] != program.first:
        return False
    for at in range(len(thing) - 1):
        if thing[at + 1] not in program.goes(thing[at]):
            return False
    return True


def check_road(program, thing):
    """Refuse what is no Program, and what is no road of it."""
    if not is_road(program, thing):
        raise BadRoad(thing)


def roads(program, most):
    """All roads of at most so many blocks, shorter ones first, those of one length ascending."""
    check_program(program)
    if not is_between(most, 1, MOST_BLOCKS):
        raise BadNumber(most)
    found = [(program.first,)]
    for count in range(most):
        if count > 0:
            found = [road + (word,) for road in found for word in sorted(program.goes(road[-1]))]
        for road in found:
            yield road


class Walk:
    """The rows that are done along a road, each with the row of dresses ahead of it."""

    def __init__(self, program, road):
        check_road(program, road)
        self._program = program
        self._road = road
        plan = plan_of(program)
        dresses = begin_dresses(program)
        steps = []
        fails = []
        for word in road:
            for at, step in enumerate(plan[word]):
                steps.append(((word, at), dresses))
                failed, dresses = step_behind(step, dresses)
                if failed:
                    fails.append(len(steps) - 1)
        self._steps = steps
        self._fails = fails
        self._dresses = dresses

    @property
    def road(self):
        """The road."""
        return self._road

    @property
    def steps(self):
        """For each row that is done its place and the row of dresses ahead of it."""
        return list(self._steps)

    def __eq__(self, other):
        return (isinstance(other, Walk) and self._program == other._program
                and self._road == other._road)

    def __len__(self):
        return len(self._steps)

    def __getitem__(self, at):
        if not isinstance(at, str) or at not in self._program.variables:
            raise NoVariable(at)
        return Dress(self._dresses[self._program.variables.index(at)])

    def __iter__(self):
        raise TypeError("a Walk is not iterated over: ask for its steps")

    def __add__(self, other):
        if not isinstance(other, str) or other not in self._program.goes(self._road[-1]):
            raise BadRoad(other)
        return Walk(self._program, self._road + (other,))

    def dresses(self):
        """The row of dresses behind the road."""
        return self._dresses

    def fails(self):
        """The indexes of the steps whose need fails."""
        return list(self._fails)
