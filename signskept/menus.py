"""Changes of a program to choose from."""

from signskept.checks import is_between
from signskept.choices import is_part, parts_of
from signskept.errors import BadBlocks, BadChange, BadChosen, BadNumber, BadStarts, TooMany
from signskept.programs import Program, check_program, is_gap, is_place, table_of
from signskept.tables import is_right

MOST_CHANGES = 8

# For each kind of a change how many parts its tuple has.
CHANGES = {"row": 3, "out": 2, "put": 4, "start": 3}


class Menu:
    """A program, and changes of it of which some are chosen to be done at once."""

    def __init__(self, program, *changes):
        check_program(program)
        if len(changes) > MOST_CHANGES:
            raise TooMany(len(changes))
        for change in changes:
            _check_change(program, change)
        self._program = program
        self._changes = list(changes)

    @property
    def program(self):
        """The program as it was handed in."""
        return self._program

    def __len__(self):
        return len(self._changes)

    def __getitem__(self, at):
        _check_index(self, at)
        return self._changes[at]

    def __setitem__(self, at, worth):
        _check_index(self, at)
        _check_change(self._program, worth)
        self._changes[at] = worth

    def __iter__(self):
        raise TypeError("a Menu is not iterated over: ask for a change by its index")

    def changed(self, chosen):
        """The Program with the changes of some indexes done at once."""
        if not _is_chosen(chosen, len(self)):
            raise BadChosen(chosen)
        program = self._with_all(chosen)
        if program is None:
            raise BadChosen(chosen)
        return program

    def helping(self):
        """All choices that lead to a right program, smaller ones first, those of one size ascending."""
        for chosen in self._choices():
            if self._helps(chosen):
                yield chosen

    def fewest(self):
        """Those of the choices that help that have the fewest changes."""
        found = []
        for chosen in self._choices():
            if found and len(chosen) > len(found[0]):
                return found
            if self._helps(chosen):
                found.append(chosen)
        return found

    def least(self):
        """Those of the choices that help of which no part helps, too."""
        found = []
        for chosen in self._choices():
            if not any([is_part(other, chosen) for other in found]) and self._helps(chosen):
                found.append(chosen)
        return found

    def _choices(self):
        """All choices of changes, whether they can be done or not, in the told order."""
        return parts_of(list(range(len(self))))

    def _with_all(self, chosen):
        """The Program with the chosen changes, or None if they cannot be done at once."""
        if chosen == ():
            return self._program
        return _changed_by(self._program, [self._changes[at] for at in chosen])

    def _helps(self, chosen):
        """Whether the chosen changes can be done at once, and lead to a right program."""
        program = self._with_all(chosen)
        return program is not None and is_right(program)


def _check_index(menu, thing):
    """Refuse what is not the index of a change."""
    if not is_between(thing, 0, len(menu) - 1):
        raise BadNumber(thing)


def _check_change(program, thing):
    """Refuse what is no change that leads to a Program if it is done alone."""
    if not _has_change_form(program, thing) or _changed_by(program, [thing]) is None:
        raise BadChange(thing)


def _has_change_form(program, thing):
    """Whether this is a tuple of a kind of a change, and of what it changes in the program."""
    if not isinstance(thing, tuple) or len(thing) == 0 or not isinstance(thing[0], str):
        return False
    if thing[0] not in CHANGES or len(thing) != CHANGES[thing[0]]:
        return False
    if thing[0] == "put":
        return is_gap(program, thing[1])
    if thing[0] == "start":
        return isinstance(thing[1], str) and thing[1] in program.variables
    return is_place(program, thing[1])


def _is_chosen(thing, count):
    """Whether this is a tuple of different indexes below count, ascending."""
    if not isinstance(thing, tuple) or not all([is_between(at, 0, count - 1) for at in thing]):
        return False
    return all([one < other for one, other in zip(thing, thing[1:])])


def _changed_by(program, changes):
    """The Program with some changes done at once, or None if there is no such Program."""
    # For each place the rows that are put ahead, and, if they are changed, those that stand there.
    ahead, instead, others = {}, {}, {}
    for change in changes:
        kind, what = change[0], change[1]
        if kind == "put":
            ahead[what] = ahead.get(what, ()) + (("widen", change[2], change[3]),)
        elif kind == "start":
            if what in others:
                return None
            others[what] = change[2]
        else:
            if what in instead:
                return None
            instead[what] = change[2:]
    dresses = program.starts()
    starts = {name: others.get(name, dresses[name].marks) for name in dresses}
    blocks = {word: (_rows_of(program, word, ahead, instead), program.goes(word)) for word in program.words}
    try:
        return Program(program.first, blocks, starts=starts, table=table_of(program))
    except (BadBlocks, BadStarts):
        return None


def _rows_of(program, word, ahead, instead):
    """The rows of a block with those that are put there, and with others, or none, instead of some."""
    found = ()
    for at, row in enumerate(program.rows(word)):
        found = found + ahead.get((word, at), ()) + instead.get((word, at), (row,))
    return found + ahead.get((word, len(program.rows(word))), ())
