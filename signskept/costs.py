"""How often goes are gone, and what it costs to put a widening at a spot."""

from signskept.checks import is_between
from signskept.spots import goes_of, points

MOST_OFTEN = 1000000


def are_frequencies(program, thing):
    """Whether this is None, or a dict of some goes of a program and of how often they are gone."""
    if thing is None:
        return True
    if not isinstance(thing, dict):
        return False
    goes = {go: True for go in goes_of(program)}
    if not all([_is_pair(go) and go in goes for go in thing]):
        return False
    return all([is_between(thing[go], 0, MOST_OFTEN) for go in thing])


def _is_pair(thing):
    """Whether this is a tuple of two texts."""
    if not isinstance(thing, tuple) or len(thing) != 2:
        return False
    return isinstance(thing[0], str) and isinstance(thing[1], str)


def spot_costs(program, frequencies):
    """For each spot of a program what a put there costs; frequencies may be None."""
    given = {} if frequencies is None else frequencies
    costs = {}
    coming = {word: 0 for word in program.words}
    for word, target in goes_of(program):
        often = given.get((word, target), 1)
        costs[word, target, 0] = often
        coming[target] = coming[target] + often
    for point in points(program):
        costs[point] = coming[point[0]]
    return costs
