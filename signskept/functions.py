"""Functions that call one another, and groups of them."""

from signskept.checks import is_word
from signskept.dresses import ordered_marks
from signskept.errors import (BadBlocks, BadFunction, BadFunctions, BadGroup, BadStarts, BadTable,
                              NoFunction)
from signskept.known import is_known
from signskept.operations import Operation
from signskept.programs import Program, is_table

RETURN = "return"
MOST_FUNCTIONS = 4
MOST_PARAMETERS = 3
MOST_OWN_WORDS = 3
# With one row more at the end of each of twenty blocks a program has no more than it may have.
MOST_OWN_ROWS = 40


def check_group(thing):
    """Refuse what is no Group."""
    if not isinstance(thing, Group):
        raise BadGroup(thing)


def check_function(group, thing):
    """Refuse what is not the word of a function of a group."""
    if not is_function(group, thing):
        raise NoFunction(thing)


def is_function(group, thing):
    """Whether this is the word of a function of a group."""
    return isinstance(thing, str) and thing in group.words


def own_table(group, word):
    """A dict of the words and Operations of the table of a function, without calls."""
    return _table_of(group._functions[word])


def plain_program(group, word):
    """The Program of a function in which nothing is promised and nothing is returned."""
    return group._programs[word]


def start_marks(group):
    """A dict of the parameters of the entry and of the marks that are sure of them, as texts."""
    return {name: group._starts[name] for name in group._starts}


def _own_copy(thing):
    """A dict with the same keys as a dict; any other value itself."""
    if isinstance(thing, dict):
        return {key: thing[key] for key in thing}
    return thing


class Function:
    """A part of a program that is called; what it is made of is checked when a Group is made."""

    def __init__(self, first, blocks, *, parameters=(), answer=None, table=None):
        self._first = first
        self._blocks = _own_copy(blocks)
        self._parameters = parameters
        self._answer = answer
        self._table = _own_copy(table)


class Group:
    """Functions that call one another, one of which is run first."""

    def __init__(self, entry, functions, *, starts=None):
        if not _are_functions(functions):
            raise BadFunctions(functions)
        given = {word: functions[word] for word in sorted(functions)}
        _check_heads(given)
        programs = {word: _checked_program(given, word) for word in given}
        if not isinstance(entry, str) or entry not in given:
            raise NoFunction(entry)
        parameters = given[entry]._parameters
        if starts is not None and not _are_starts(starts, parameters):
            raise BadStarts(starts)
        marks = {} if starts is None else starts
        self._entry = entry
        self._functions = given
        self._programs = programs
        self._starts = {name: ordered_marks(marks.get(name, "")) for name in parameters}

    @property
    def entry(self):
        """The word of the function that is run first."""
        return self._entry

    @property
    def words(self):
        """The words of the functions, ascending."""
        return tuple(self._functions)

    def __eq__(self, other):
        return (isinstance(other, Group) and self._entry == other._entry
                and self._starts == other._starts and _told(self) == _told(other))

    def function(self, word):
        """The parameters and the answer of a function."""
        check_function(self, word)
        return (self._functions[word]._parameters, self._functions[word]._answer)

    def calls(self, word):
        """For each row of a function that calls its place and the function that is called, ascending."""
        check_function(self, word)
        return _calls_in(self._programs[word], self._functions)

    def variables_in(self, word):
        """The variables of the rows and parameters of a function, ascending."""
        check_function(self, word)
        return self._programs[word].variables


def _told(group):
    """A dict of the functions of a group, each as a tuple of what it was made of."""
    found = {}
    for word in group.words:
        one = group._functions[word]
        found[word] = (one._first, one._blocks, one._parameters, one._answer, _table_of(one))
    return found


def _table_of(function):
    """A dict of the words and Operations of the table of a Function."""
    if function._table is None:
        return {}
    return _own_copy(function._table)


def _are_functions(thing):
    """Whether this is a dict of not too many Functions by words that nothing else has."""
    if not isinstance(thing, dict) or not 1 <= len(thing) <= MOST_FUNCTIONS:
        return False
    if not all([is_word(word) and isinstance(thing[word], Function) for word in thing]):
        return False
    if any([word == RETURN or is_known(word) for word in thing]):
        return False
    taken = [key for word in thing for key in _keys_of(thing[word]._table)]
    return all([word not in taken for word in thing])


def _keys_of(table):
    """The texts among the keys of a table, which may be any value here."""
    if not isinstance(table, dict):
        return []
    return [key for key in table if isinstance(key, str)]


def _check_heads(functions):
    """Refuse functions of which one has parameters, an answer or a table that break a rule."""
    for word in functions:
        if not _has_fine_head(functions[word]):
            raise BadFunction(word)


def _has_fine_head(function):
    """Whether parameters, answer and table of a Function are what they must be, seen alone."""
    names = function._parameters
    if not isinstance(names, tuple) or len(names) > MOST_PARAMETERS:
        return False
    if not all([is_word(name) for name in names]) or len(set(names)) != len(names):
        return False
    if function._answer is not None and not is_word(function._answer):
        return False
    table = function._table
    if table is None:
        return True
    return is_table(table) and len(table) <= MOST_OWN_WORDS and RETURN not in table


def _checked_program(functions, word):
    """The Program of a function with an operation for each one; a function that breaks a rule is refused."""
    program = _made_program(functions, word)
    if program is None or len(program.places()) > MOST_OWN_ROWS:
        raise BadFunction(word)
    answer = functions[word]._answer
    if answer is not None and answer not in program.variables:
        raise BadFunction(word)
    for place, callee in _calls_in(program, functions):
        if program[place][1] is not None and functions[callee]._answer is None:
            raise BadFunction(word)
    return program


def _made_program(functions, word):
    """The Program of a function with an operation for each one, or None if there is no such Program."""
    function = functions[word]
    table = _table_of(function)
    for callee in functions:
        table[callee] = Operation(len(functions[callee]._parameters))
    starts = {name: "" for name in function._parameters}
    try:
        return Program(function._first, function._blocks, starts=starts, table=table)
    except (BadTable, BadBlocks, BadStarts):
        return None


def _calls_in(program, functions):
    """The places of the rows that call, ascending, each with the function that is called."""
    found = [(place, program[place]) for place in program.places()]
    return [(place, row[2]) for place, row in found if row[0] == "do" and row[2] in functions]


def _are_starts(thing, parameters):
    """Whether this is a dict of some parameters and texts of marks."""
    if not isinstance(thing, dict):
        return False
    if not all([isinstance(name, str) and name in parameters for name in thing]):
        return False
    return all([ordered_marks(thing[name]) is not None for name in thing])
