"""Tables of all rows of dresses with which blocks are come to, and verdicts about rows."""

from heapq import heappop, heappush

from signskept.checks import is_listed
from signskept.dresses import TEXTS
from signskept.effects import begin_dresses, dresses_behind, plan_of, step_behind
from signskept.errors import NoEntry, NoPlace, TooLarge
from signskept.programs import check_program, is_block, is_place

MOST_ENTRIES = 20000


def _is_entry(program, thing):
    """Whether this has the form of an entry for the program."""
    if not isinstance(thing, tuple) or len(thing) != 2 or not is_block(program, thing[0]):
        return False
    if not isinstance(thing[1], tuple) or len(thing[1]) != len(program.variables):
        return False
    return all([isinstance(text, str) and text in TEXTS for text in thing[1]])


def _begin_entry(program):
    """The entry of the beginning."""
    return (program.first, begin_dresses(program))


def _entries_behind(program, plan, entry):
    """The entries to which the block of an entry leads, in the order of its goes."""
    word, dresses = entry
    behind = dresses_behind(plan[word], dresses)
    return [(target, behind) for target in program.goes(word)]


class Table:
    """All entries of a program, and how each is come to with the fewest rows."""

    def __init__(self, program):
        check_program(program)
        self._program = program
        begin = _begin_entry(program)
        plan = plan_of(program)
        ahead = {begin: 0}
        came = {begin: None}
        # Entries are taken by the rows ahead of them; so the first way to one has the fewest.
        queue = [(0, begin)]
        while queue:
            count, entry = heappop(queue)
            if count > ahead[entry]:
                continue
            behind = count + len(plan[entry[0]])
            for target in _entries_behind(program, plan, entry):
                if target not in ahead or behind < ahead[target]:
                    ahead[target] = behind
                    came[target] = entry
                    heappush(queue, (behind, target))
            if len(ahead) > MOST_ENTRIES:
                raise TooLarge(program)
        self._ahead = ahead
        self._came = came
        self._entries = sorted(ahead)

    @property
    def entries(self):
        """All entries, ascending."""
        return list(self._entries)

    def __contains__(self, x):
        return _is_entry(self._program, x) and x in self._ahead

    def __len__(self):
        return len(self._entries)

    def road_to(self, entry):
        """A road with the fewest rows ahead of its last block by which the entry is come to."""
        if entry not in self:
            raise NoEntry(entry)
        road = []
        while entry is not None:
            road.append(entry[0])
            entry = self._came[entry]
        return tuple(road[::-1])

    def rows_ahead(self, entry):
        """How many rows are done at least ahead of an entry of the table."""
        return self._ahead[entry]


def is_closed(program, entries):
    """Whether these are entries among which are the first one and all that are behind them."""
    check_program(program)
    if not is_listed(entries) or not all([_is_entry(program, entry) for entry in entries]):
        return False
    plan = plan_of(program)
    given = {entry: True for entry in entries}
    if _begin_entry(program) not in given:
        return False
    for entry in given:
        if not all([target in given for target in _entries_behind(program, plan, entry)]):
            return False
    return True


class Verdict:
    """Whether a row can fail: with a road on which it does, or with a closed table."""

    def __init__(self, place, road, many, entries):
        self._place = place
        self._road = road
        self._many = many
        self._entries = entries

    @property
    def place(self):
        """The place of the row."""
        return self._place

    @property
    def road(self):
        """A road on which the row fails in the last block, or None."""
        return self._road

    @property
    def many(self):
        """How many rows are done ahead of it along this road, or None."""
        return self._many

    @property
    def entries(self):
        """The entries of the table if the row cannot fail, otherwise none."""
        return list(self._entries)

    def __bool__(self):
        return self._road is not None


def verdict(program, place):
    """The Verdict about the row at a place."""
    check_program(program)
    if not is_place(program, place):
        raise NoPlace(place)
    table = Table(program)
    return _verdict_at(table, _failures(program, table), place)


def verdicts(program):
    """The Verdicts about all rows, ascending by places."""
    check_program(program)
    table = Table(program)
    failures = _failures(program, table)
    for place in program.places():
        yield _verdict_at(table, failures, place)


def is_right(program):
    """Whether no row can fail."""
    check_program(program)
    return not _failures(program, Table(program))


def worst(program):
    """The Verdict with the fewest rows ahead of all that are true, or None."""
    check_program(program)
    table = Table(program)
    failures = _failures(program, table)
    if not failures:
        return None
    _, place = min([(failures[place][0], place) for place in failures])
    return _verdict_at(table, failures, place)


def _failures(program, table):
    """For each place whose need can fail the fewest rows ahead of it, and the entry of its block."""
    plan = plan_of(program)
    found = {}
    for entry in table.entries:
        word, dresses = entry
        for at, step in enumerate(plan[word]):
            fails, dresses = step_behind(step, dresses)
            many = table.rows_ahead(entry) + at
            if fails and ((word, at) not in found or many < found[word, at][0]):
                found[word, at] = (many, entry)
    return found


def _verdict_at(table, failures, place):
    """The Verdict about a place."""
    if place not in failures:
        return Verdict(place, None, None, table.entries)
    many, entry = failures[place]
    return Verdict(place, table.road_to(entry), many, [])
