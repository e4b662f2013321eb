"""Programs of blocks and rows."""

from signskept.checks import is_between, is_listed, is_word
from signskept.dresses import Dress, ordered_marks
from signskept.errors import (BadBlocks, BadProgram, BadRow, BadStarts, BadTable, NoBlock,
                              NoOperation, NoPlace)
from signskept.known import is_known
from signskept.operations import Operation
from signskept.rows import find_operation, is_row, variables_in

MOST_WORDS = 8
MOST_BLOCKS = 20
MOST_ROWS = 60
MOST_VARIABLES = 12


def check_program(thing):
    """Refuse what is no Program."""
    if not isinstance(thing, Program):
        raise BadProgram(thing)


def is_place(program, thing):
    """Whether this is the place of a row of the program."""
    return _is_spot(program, thing, 0)


def is_gap(program, thing):
    """Whether this is the place of a row of the program, or of the end of a block."""
    return _is_spot(program, thing, 1)


def is_block(program, thing):
    """Whether this is the word of a block of the program."""
    return isinstance(thing, str) and thing in program.words


def table_of(program):
    """A dict of the words and Operations of the table of a program."""
    return {word: program._table[word] for word in program._table}


class Program:
    """Blocks of rows, with the first block, what is sure at the beginning, and a table of operations."""

    def __init__(self, first, blocks, *, starts=None, table=None):
        if table is not None and not is_table(table):
            raise BadTable(table)
        self._table = {} if table is None else {word: table[word] for word in table}
        if not _are_blocks(blocks, self._table):
            raise BadBlocks(blocks)
        if not isinstance(first, str) or first not in blocks:
            raise BadBlocks(first)
        own = variables_in(_all_rows(blocks))
        if starts is not None and not _are_starts(starts, own):
            raise BadStarts(starts)
        given = {} if starts is None else starts
        self._first = first
        self._blocks = {word: blocks[word] for word in sorted(blocks)}
        self._variables = tuple(sorted(set(own + list(given))))
        self._starts = {name: ordered_marks(given.get(name, "")) for name in self._variables}

    @property
    def first(self):
        """The word of the first block."""
        return self._first

    @property
    def words(self):
        """The words of the blocks, ascending."""
        return tuple(self._blocks)

    @property
    def variables(self):
        """The variables, ascending."""
        return self._variables

    def __eq__(self, other):
        return (isinstance(other, Program) and self._first == other._first
                and self._blocks == other._blocks and self._variables == other._variables
                and self._starts == other._starts and self._table == other._table)

    def __getitem__(self, at):
        if not is_place(self, at):
            raise NoPlace(at)
        return self._blocks[at[0]][0][at[1]]

    def __iter__(self):
        raise TypeError("a Program is not iterated over: ask for its places")

    def rows(self, word):
        """The tuple of the rows of a block."""
        if not is_block(self, word):
            raise NoBlock(word)
        return self._blocks[word][0]

    def goes(self, word):
        """The tuple of the blocks to which a block goes."""
        if not is_block(self, word):
            raise NoBlock(word)
        return self._blocks[word][1]

    def starts(self):
        """A dict of all variables and their Dresses at the beginning."""
        return {name: Dress(self._starts[name]) for name in self._starts}

    def operation(self, word):
        """The Operation of a word of the table, or a known one."""
        found = find_operation(word, self._table)
        if found is None:
            raise NoOperation(word)
        return found

    def places(self):
        """The places of all rows, ascending."""
        return [(word, at) for word in self._blocks for at in range(len(self._blocks[word][0]))]

    def widenings(self):
        """The places of the widenings, ascending."""
        return [place for place in self.places() if self[place][0] == "widen"]

    def with_row(self, place, row):
        """A Program with another row at a place."""
        if not is_place(self, place):
            raise NoPlace(place)
        word, at = place
        rows = self._blocks[word][0]
        return self._with_one(word, rows[:at] + (row,) + rows[at + 1:], row)

    def with_more(self, place, row):
        """A Program with a row put ahead of the one at a place, or at the end of a block."""
        if not is_gap(self, place):
            raise NoPlace(place)
        word, at = place
        rows = self._blocks[word][0]
        return self._with_one(word, rows[:at] + (row,) + rows[at:], row)

    def without(self, places):
        """A Program without the rows at some places."""
        if not is_listed(places) or not all([is_place(self, place) for place in places]):
            raise NoPlace(places)
        if len(set(places)) != len(places):
            raise NoPlace(places)
        blocks = {}
        for word in self._blocks:
            rows, goes = self._blocks[word]
            kept = [row for at, row in enumerate(rows) if (word, at) not in places]
            blocks[word] = (tuple(kept), goes)
        return self._changed(blocks)

    def _changed(self, blocks):
        """A Program with other blocks that has the variables of this one, too."""
        return Program(self._first, blocks, starts=self._starts, table=self._table)

    def _with_one(self, word, rows, row):
        """A Program with other rows in one block, of which this one is new."""
        blocks = {name: self._blocks[name] for name in self._blocks}
        blocks[word] = (rows, self._blocks[word][1])
        try:
            return self._changed(blocks)
        except (BadBlocks, BadStarts):
            raise BadRow(row) from None


def _is_spot(program, thing, more):
    """Whether this is a block and an index of its rows, or of so many more behind them."""
    if not isinstance(thing, tuple) or len(thing) != 2 or not is_block(program, thing[0]):
        return False
    return is_between(thing[1], 0, len(program.rows(thing[0])) - 1 + more)


def is_table(thing):
    """Whether this is a dict of not too many new words and Operations."""
    if not isinstance(thing, dict) or len(thing) > MOST_WORDS:
        return False
    if not all([is_word(word) and not is_known(word) for word in thing]):
        return False
    return all([isinstance(thing[word], Operation) for word in thing])


def _all_rows(blocks):
    """The rows of all blocks."""
    return [row for word in blocks for row in blocks[word][0]]


def _are_blocks(thing, table):
    """Whether this is a dict of blocks, with not too many of them, of rows and of variables."""
    if not isinstance(thing, dict) or not 1 <= len(thing) <= MOST_BLOCKS:
        return False
    if not all([is_word(word) for word in thing]):
        return False
    if not all([_is_body(thing[word], thing, table) for word in thing]):
        return False
    rows = _all_rows(thing)
    return len(rows) <= MOST_ROWS and len(variables_in(rows)) <= MOST_VARIABLES


def _is_body(thing, blocks, table):
    """Whether this is a tuple of rows and goes."""
    if not isinstance(thing, tuple) or len(thing) != 2:
        return False
    rows, goes = thing
    if not isinstance(rows, tuple) or not all([is_row(row, table) for row in rows]):
        return False
    return _are_goes(goes, blocks)


def _are_goes(thing, blocks):
    """Whether this is a tuple of at most two different words of blocks."""
    if not isinstance(thing, tuple) or len(thing) > 2:
        return False
    if not all([isinstance(word, str) and word in blocks for word in thing]):
        return False
    return len(set(thing)) == len(thing)


def _are_starts(thing, own):
    """Whether this is a dict of variables and texts of marks, with not too many variables in all."""
    if not isinstance(thing, dict) or not all([is_word(name) for name in thing]):
        return False
    if not all([ordered_marks(thing[name]) is not None for name in thing]):
        return False
    return len(set(own + list(thing))) <= MOST_VARIABLES
