"""Which widenings of a program may be left out."""

from signskept.checks import is_listed
from signskept.choices import is_part, parts_of
from signskept.errors import NoPlace, TooMany
from signskept.programs import check_program, is_place
from signskept.tables import is_right

MOST_WIDENINGS = 8


def _is_widening(program, thing):
    """Whether this is the place of a widening of the program."""
    return is_place(program, thing) and program[thing][0] == "widen"


def _set_of(program, places):
    """The set of some places of widenings; what are no such places is refused."""
    if not is_listed(places) or not all([_is_widening(program, place) for place in places]):
        raise NoPlace(places)
    if len(set(places)) != len(places):
        raise NoPlace(places)
    return tuple(sorted(places))


def may_leave(program, places):
    """Whether the program is right without the widenings at some places."""
    check_program(program)
    return is_right(_without(program, _set_of(program, places)))


def leavable(program):
    """All sets that may be left out, smaller ones first, those of one size ascending."""
    check_program(program)
    found = program.widenings()
    if len(found) > MOST_WIDENINGS:
        raise TooMany(program)
    for places in parts_of(found):
        if is_right(_without(program, places)):
            yield places


def greatest(program):
    """The sets that may be left out and are no part of another one of them."""
    found = list(leavable(program))
    return [places for places in found if not any([is_part(places, other) for other in found])]


def cheapest_left(program):
    """The first one of the sets with the most places that may be left out, or None."""
    found = list(leavable(program))
    if not found:
        return None
    most = max([len(places) for places in found])
    return [places for places in found if len(places) == most][0]


def _without(program, places):
    """The program without the rows of a set, the very program for none."""
    return program if places == () else program.without(places)


class Bench:
    """A program on which it is tried what can be left out."""

    def __init__(self, program):
        check_program(program)
        self._whole = program
        self._current = program
        self._out = ()

    @property
    def whole(self):
        """The program as it was handed in."""
        return self._whole

    @property
    def current(self):
        """The program without the widenings that are left out now."""
        return self._current

    @property
    def left(self):
        """The set of the widenings that are left out now; it can be set as by leave."""
        return self._out

    @left.setter
    def left(self, value):
        self.leave(value)

    def __isub__(self, other):
        if other not in self:
            raise NoPlace(other)
        self.leave(self._out + (other,))
        return self

    def __iadd__(self, other):
        if other in self or not _is_widening(self._whole, other):
            raise NoPlace(other)
        self.leave([place for place in self._out if place != other])
        return self

    def __contains__(self, x):
        return _is_widening(self._whole, x) and x not in self._out

    def __len__(self):
        return len([place for place in self._whole.widenings() if place not in self._out])

    def leave(self, places):
        """Leave out just the widenings at these places from now on."""
        out = _set_of(self._whole, places)
        self._current = _without(self._whole, out)
        self._out = out

    def tried(self, places, asked):
        """What a callable answers for the bench while just these widenings are left out."""
        out = self._out
        current = self._current
        self.leave(places)
        try:
            return asked(self)
        finally:
            self._out = out
            self._current = current
