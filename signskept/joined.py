"""Flows through all functions of a group at once: into functions at calls, and back at returns."""

from signskept.books import Book, alone
from signskept.costs import are_frequencies, spot_costs
from signskept.dresses import check_mark
from signskept.errors import BadFlow, BadFrequencies, NotSimple
from signskept.functions import check_group, is_function, start_marks
from signskept.spots import first_point, reached
from signskept.wants import unfit
from signskept.ways import Ways, add_program, flow_total


def joined_sum(group, mark, flow, frequencies=None):
    """The sum of the amounts of a flow of joined paths."""
    check_group(group)
    check_mark(mark)
    check_group_frequencies(group, frequencies)
    check_simple_group(group, mark)
    total = flow_total(group_ways(group, mark, frequencies), flow)
    if total is None:
        raise BadFlow(flow)
    return total


def check_group_frequencies(group, thing):
    """Refuse what is neither None nor a dict of some functions and their frequencies."""
    if thing is None:
        return
    if not isinstance(thing, dict) or not all([is_function(group, word) for word in thing]):
        raise BadFrequencies(thing)
    programs = unpromised(group)
    if not all([are_frequencies(programs[word], thing[word]) for word in thing]):
        raise BadFrequencies(thing)


def check_simple_group(group, mark):
    """Refuse a group of which a function is not simple in a mark."""
    programs = unpromised(group)
    for word in programs:
        if unfit(programs[word], mark):
            raise NotSimple(word)


def unpromised(group):
    """For each function, ascending, its Program by a book without promises."""
    book = Book(group)
    return {word: alone(group, word, book) for word in group.words}


def returns_of(program, answer):
    """The places of the rows of reached blocks by which a function returns its answer."""
    if answer is None:
        return []
    return [(word, len(program.rows(word)) - 1) for word in reached(program) if program.goes(word) == ()]


def group_ways(group, mark, frequencies):
    """The Ways of all functions of a group that is simple in a mark, joined at calls and returns."""
    often = {} if frequencies is None else frequencies
    programs = unpromised(group)
    ways = Ways()
    for word in programs:
        costs = spot_costs(programs[word], often.get(word))
        add_program(ways, (word,), programs[word], mark, costs)
        _take_parameters(ways, group, word, programs[word], mark)
    for word in programs:
        blocks = reached(programs[word])
        for place, callee in group.calls(word):
            if place[0] in blocks:
                _join_call(ways, group, programs, (word, place), callee)
    return ways


def _take_parameters(ways, group, word, program, mark):
    """Let no path begin at a parameter, unless it is one of the entry that has not the mark."""
    lost = []
    if word == group.entry:
        sure = start_marks(group)
        lost = [name for name in sure if mark not in sure[name]]
    for name in group.function(word)[0]:
        if name not in lost:
            del ways.begins[word, first_point(program.first), name]


def _join_call(ways, group, programs, caller, callee):
    """Join the paths of a function with those of another one that it calls at a place."""
    word, place = caller
    row = programs[word][place]
    parameters, answer = group.function(callee)
    body = programs[callee]
    for name, parameter in zip(row[3:], parameters):
        begin = (callee, ("", body.first, 0), parameter)
        ways.link((word, (place[0], "", place[1]), name), (callee, first_point(body.first), parameter), (begin,))
    if row[1] is None:
        return
    behind = (word, (place[0], "", place[1] + 1), row[1])
    del ways.begins[behind]
    for block, at in returns_of(body, answer):
        ways.link((callee, (block, "", at), answer), behind, ())
