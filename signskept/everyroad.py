"""Where one variable is widened so that no road has more than it must."""

from signskept.checks import is_listed, is_whole
from signskept.dresses import check_mark
from signskept.errors import NoEnd, NotSimple, NoVariable
from signskept.programs import check_program
from signskept.spots import end_point, first_point, goes_of, has_spot_form, points, reached
from signskept.wants import gift_of, is_fit, wanted_by


class Course:
    """What happens to one variable at the points of a program, by one mark.

    A point follows another one freely if between them is a go, or a row that neither wants nor
    spoils nor makes. Both sets of points that are asked for are what is left when one goes freely
    from where a point surely is in neither: backward from ends, spoils and makes without a want,
    and forward from the beginning without the mark and from spoils.
    """

    def __init__(self, program, mark, variable):
        self.all_points = points(program)
        self.following = {point: [] for point in self.all_points}
        self.leading = {point: [] for point in self.all_points}
        self.stops = {}
        self.losses = {}
        if mark not in program.starts()[variable]:
            self.losses[first_point(program.first)] = True
        for word in reached(program):
            for at, row in enumerate(program.rows(word)):
                self._pass_row((word, "", at), (word, "", at + 1), deeds_of(program, row, mark, variable))
            if program.goes(word) == ():
                self.stops[end_point(program, word)] = True
            for target in program.goes(word):
                self._join(end_point(program, word), first_point(target))

    def _pass_row(self, point, behind, deeds):
        """Note what the row between two points does."""
        wants, spoils, makes = deeds
        if not wants and not spoils and not makes:
            self._join(point, behind)
        if (spoils or makes) and not wants:
            self.stops[point] = True
        if spoils:
            self.losses[behind] = True

    def _join(self, point, behind):
        """Note that a point follows another one freely."""
        self.following[point].append(behind)
        self.leading[behind].append(point)


def deeds_of(program, row, mark, variable):
    """Whether a row wants a variable, spoils it, and makes it, by a mark."""
    wants = variable in wanted_by(program, row, mark)
    given = gift_of(program, row, mark)
    if given is None or given[0] != variable:
        return wants, False, False
    return wants, given[1] is None, given[1] == []


def _checked_course(program, mark, variable):
    """The Course of a variable; what an EveryRoad does not take is refused."""
    check_program(program)
    check_mark(mark)
    if not isinstance(variable, str) or variable not in program.variables:
        raise NoVariable(variable)
    for place in program.places():
        row = program[place]
        if not is_fit(program, row, mark) or _mixes(gift_of(program, row, mark), variable):
            raise NotSimple(place)
    ending = _ending(program)
    for word in reached(program):
        if word not in ending:
            raise NoEnd(word)
    return Course(program, mark, variable)


def _mixes(given, variable):
    """Whether a variable gets the mark from another one by this gift of a row."""
    if given is None or given[0] != variable or given[1] is None:
        return False
    return any([name != variable for name in given[1]])


def _ending(program):
    """The blocks from which one without goes can be come to."""
    found = [word for word in program.words if program.goes(word) == ()]
    more = found
    while more:
        more = [word for word in program.words if word not in found
                and any([target in found for target in program.goes(word)])]
        found = found + more
    return found


def _fewest(zeros, steps):
    """For each point that is come to from some points the fewest steps to it."""
    found = {point: 0 for point in zeros}
    layer = list(found)
    while layer:
        further = []
        for point in layer:
            for other in steps[point]:
                if other not in found:
                    found[other] = found[point] + 1
                    further.append(other)
        # A list of its own, so that no other name of the list that is walked is appended to.
        layer = list(further)
    return found


class EveryRoad:
    """Where one variable is widened by a mark so that no road that ends has more than it must."""

    def __init__(self, program, mark, variable):
        course = _checked_course(program, mark, variable)
        short = _fewest(course.stops, course.leading)
        old = _fewest(course.losses, course.following)
        self._certain = [point for point in course.all_points if point not in short]
        self._already = [point for point in course.all_points if point not in old]
        self._paper = [(point, short.get(point), old.get(point)) for point in course.all_points]
        found = [point for point in self._certain if point[2] > 0 and point in course.losses]
        for word, target in goes_of(program):
            if first_point(target) in self._certain and self._needs_put(program, course, word):
                found.append((word, target, 0))
        self._puts = sorted([(spot, variable) for spot in found])

    @property
    def certain(self):
        """The points from which a row wants the variable first, on every road that ends."""
        return list(self._certain)

    @property
    def already(self):
        """The points at which the variable has the mark by what was ahead on every road."""
        return list(self._already)

    @property
    def puts(self):
        """The puts, ascending."""
        return list(self._puts)

    @property
    def paper(self):
        """For each point the numbers that show why it is in neither set, or None."""
        return list(self._paper)

    def _needs_put(self, program, course, word):
        """Whether a put is due on the goes from a block, or from the beginning, to certain points."""
        if word == "":
            return first_point(program.first) in course.losses
        end = end_point(program, word)
        return end not in self._certain and end not in self._already


def is_paper(program, mark, variable, paper):
    """Whether a value tells both sets of points by numbers that agree place by place."""
    course = _checked_course(program, mark, variable)
    if not is_listed(paper) or len(paper) != len(course.all_points):
        return False
    if not all([_is_line(line, point) for line, point in zip(paper, course.all_points)]):
        return False
    short = {line[0]: line[1] for line in paper}
    old = {line[0]: line[2] for line in paper}
    for point in course.all_points:
        if not _agrees(short, point, course.stops, course.following):
            return False
        if not _agrees(old, point, course.losses, course.leading):
            return False
    return True


def _is_line(thing, point):
    """Whether this is a tuple of this point and two numbers from 0 on, or None for them."""
    if not isinstance(thing, tuple) or len(thing) != 3:
        return False
    if not has_spot_form(thing[0]) or thing[0] != point:
        return False
    return all([number is None or is_whole(number) and number >= 0 for number in thing[1:]])


def _agrees(numbers, point, zeros, steps):
    """Whether the number of a point is right beside those of the points to which steps lead."""
    number = numbers[point]
    others = [numbers[other] for other in steps[point]]
    if number is None:
        return point not in zeros and all([other is None for other in others])
    if number == 0:
        return point in zeros
    return any([other is not None and other < number for other in others])
