"""Paths along which a mark is missing: from where it is lost, or never was, to a row that wants it."""

from signskept.checks import is_listed, is_whole
from signskept.puts import names_behind
from signskept.spots import end_point, first_point, has_spot_form, reached
from signskept.wants import gift_of, wanted_by


class Ways:
    """The nodes of paths, and the steps between them.

    A node is a tuple of a point and a variable, for a group with the word of a function ahead. In
    the same way any spot is told with a variable: that is what a put, or a path, takes of it.
    """

    def __init__(self):
        # What each spot with a variable costs.
        self.prices = {}
        # For each node at which a path may begin a tuple of the spots that it passes ahead of it.
        self.begins = {}
        # For each node a dict of the next ones, each with a tuple of the spots passed between.
        self.onward = {}
        # The nodes ahead of rows that want their variable.
        self.wishes = {}

    def link(self, node, behind, passed):
        """Let a path go from a node to another one, passing some spots between."""
        if node not in self.onward:
            self.onward[node] = {}
        self.onward[node][behind] = passed


def add_program(ways, ahead, program, mark, costs):
    """Add the paths of a program, with a tuple that stands ahead in each node, and what spots cost."""
    for spot in costs:
        for name in program.variables:
            ways.prices[ahead + (spot, name)] = costs[spot]
    dresses = program.starts()
    for name in program.variables:
        if mark not in dresses[name]:
            begin = ahead + (("", program.first, 0), name)
            ways.begins[ahead + (first_point(program.first), name)] = (begin,)
    for word in reached(program):
        for at, row in enumerate(program.rows(word)):
            _add_row(ways, ahead, program, mark, (word, at))
        for target in program.goes(word):
            for name in program.variables:
                passed = ahead + ((word, target, 0), name)
                ways.link(ahead + (end_point(program, word), name), ahead + (first_point(target), name), (passed,))


def _add_row(ways, ahead, program, mark, place):
    """Add what the row at a place wants, spoils and hands on."""
    word, at = place
    here, behind = (word, "", at), (word, "", at + 1)
    given = gift_of(program, program[place], mark)
    for name in wanted_by(program, program[place], mark):
        ways.wishes[ahead + (here, name)] = True
    if given is not None and given[1] is None:
        ways.begins[ahead + (behind, given[0])] = ()
    for name in program.variables:
        for other in names_behind(given, name):
            ways.link(ahead + (here, name), ahead + (behind, other), ())


def flow_total(ways, thing):
    """The sum of the amounts of a flow, or None if this is no flow."""
    if not is_listed(thing) or not all([_is_share(ways, share) for share in thing]):
        return None
    passed = {}
    for amount, path in thing:
        for spot in _spots_along(ways, path):
            passed[spot] = passed.get(spot, 0) + amount
    if any([passed[spot] > ways.prices[spot] for spot in passed]):
        return None
    return sum([amount for amount, _ in thing])


def _is_share(ways, thing):
    """Whether this is a tuple of an amount and a path."""
    if not isinstance(thing, tuple) or len(thing) != 2:
        return False
    return is_whole(thing[0]) and thing[0] >= 1 and _is_path(ways, thing[1])


def _is_path(ways, thing):
    """Whether this is a tuple of nodes that begins, goes on and ends as a path does."""
    if not isinstance(thing, tuple) or not all([_has_node_form(node) for node in thing]):
        return False
    if len(thing) == 0 or thing[0] not in ways.begins or thing[-1] not in ways.wishes:
        return False
    return all([behind in ways.onward.get(node, {}) for node, behind in zip(thing, thing[1:])])


def _has_node_form(thing):
    """Whether this is a tuple of texts in which one like a spot stands last but one."""
    if not isinstance(thing, tuple) or len(thing) < 2 or not has_spot_form(thing[-2]):
        return False
    return all([isinstance(text, str) for text in thing[:-2] + thing[-1:]])


def _spots_along(ways, path):
    """The spots that a path passes, each as often as it does."""
    found = list(ways.begins[path[0]] + path)
    for node, behind in zip(path, path[1:]):
        found.extend(ways.onward[node][behind])
    return found
