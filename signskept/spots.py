"""The blocks that are reached, and the places for widenings in them."""

from signskept.checks import is_whole
from signskept.programs import check_program


def reached(program):
    """The blocks that are on a road, ascending."""
    check_program(program)
    found = {program.first: True}
    waiting = [program.first]
    while waiting:
        for target in program.goes(waiting.pop()):
            if target not in found:
                found[target] = True
                waiting.append(target)
    return sorted(found)


def goes_of(program):
    """All goes of reached blocks, and that of the beginning, ascending."""
    found = [(word, target) for word in reached(program) for target in program.goes(word)]
    return sorted(found + [("", program.first)])


def points(program):
    """All points of reached blocks, ascending."""
    return [(word, "", at) for word in reached(program) for at in range(len(program.rows(word)) + 1)]


def spots(program):
    """All points, and the spots on goes, ascending."""
    return sorted(points(program) + [(word, target, 0) for word, target in goes_of(program)])


def first_point(word):
    """The point at the beginning of a block."""
    return (word, "", 0)


def end_point(program, word):
    """The point at the end of a block."""
    return (word, "", len(program.rows(word)))


def has_spot_form(thing):
    """Whether this is a tuple of two texts and an integer."""
    if not isinstance(thing, tuple) or len(thing) != 3 or not is_whole(thing[2]):
        return False
    return isinstance(thing[0], str) and isinstance(thing[1], str)
