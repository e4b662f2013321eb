"""Widenings by one mark that are put at spots of a program."""

from signskept.checks import LETTERS, is_listed
from signskept.dresses import check_mark
from signskept.errors import BadPuts, TooLarge
from signskept.programs import MOST_BLOCKS, MOST_ROWS, Program, check_program, table_of
from signskept.roads import check_road
from signskept.spots import first_point, has_spot_form, reached, spots
from signskept.wants import check_simple, gift_of, wanted_by


def unsure(program, mark, puts):
    """All tuples (point, variable) where the mark is not sure on some road, ascending."""
    _check_marked_puts(program, mark, puts)
    check_simple(program, mark)
    return sorted(_unsure_nodes(program, mark, puts))


def serves(program, mark, puts):
    """Whether no row that a road comes to wants a variable that is unsure there."""
    _check_marked_puts(program, mark, puts)
    check_simple(program, mark)
    found = _unsure_nodes(program, mark, puts)
    for word in reached(program):
        for at, row in enumerate(program.rows(word)):
            if any([((word, "", at), name) in found for name in wanted_by(program, row, mark)]):
                return False
    return True


def placed(program, mark, puts):
    """A Program with the widenings put in: at points as rows, on goes as new blocks."""
    _check_marked_puts(program, mark, puts)
    rows_at = _rows_at(mark, puts)
    goes = [spot for spot in rows_at if _is_on_go(spot)]
    if len(program.words) + len(goes) > MOST_BLOCKS or len(program.places()) + len(puts) > MOST_ROWS:
        raise TooLarge(program)
    # There are more letters than blocks; so there is a free one for each new block.
    free = [letter for letter in LETTERS if letter not in program.words]
    new = {goes[at]: free[at] for at in range(len(goes))}
    blocks = {new[spot]: (rows_at[spot], (spot[1],)) for spot in goes}
    for word in program.words:
        targets = [new.get((word, target, 0), target) for target in program.goes(word)]
        blocks[word] = (_rows_with(program, word, rows_at), tuple(targets))
    first = new.get(("", program.first, 0), program.first)
    dresses = program.starts()
    starts = {name: dresses[name].marks for name in dresses}
    return Program(first, blocks, starts=starts, table=table_of(program))


def count_on(program, puts, road):
    """How many of the widenings are met along a road."""
    check_program(program)
    check_puts(program, puts)
    check_road(program, road)
    # A road comes by the points of a block and by the go that leads to it each time.
    passed = [(word, "") for word in road] + list(zip(("",) + road, road))
    return sum([passed.count((spot[0], spot[1])) for spot, _ in puts])


def check_puts(program, thing):
    """Refuse what is no list or tuple of different puts."""
    if not is_listed(thing):
        raise BadPuts(thing)
    allowed = {spot: True for spot in spots(program)}
    if not all([_is_put(program, allowed, put) for put in thing]) or len(set(thing)) != len(thing):
        raise BadPuts(thing)


def _is_put(program, allowed, thing):
    """Whether this is a tuple of one of the allowed spots and a variable."""
    if not isinstance(thing, tuple) or len(thing) != 2:
        return False
    if not has_spot_form(thing[0]) or thing[0] not in allowed:
        return False
    return isinstance(thing[1], str) and thing[1] in program.variables


def _check_marked_puts(program, mark, puts):
    """Refuse what is no Program, no mark, or no puts for it."""
    check_program(program)
    check_mark(mark)
    check_puts(program, puts)


def _is_on_go(spot):
    """Whether a spot is on a go, and no point."""
    return spot[1] != ""


def _rows_at(mark, puts):
    """For each spot of some puts the rows of its widenings, ascending by variables."""
    found = {}
    for spot, name in sorted(puts):
        found[spot] = found.get(spot, ()) + (("widen", mark, name),)
    return found


def _rows_with(program, word, rows_at):
    """The rows of a block with those that are put at its points."""
    found = rows_at.get(first_point(word), ())
    for at, row in enumerate(program.rows(word)):
        found = found + (row,) + rows_at.get((word, "", at + 1), ())
    return found


def _unsure_nodes(program, mark, puts):
    """A dict of all tuples (point, variable) where the mark is not sure on some road.

    Where each row has one alternative, a variable is unsure if and only if some path leads to it
    from where the mark is lost, or never was: so the paths are gone here, and no roads.
    """
    sure = {put: True for put in puts}
    waiting = _sources(program, mark, sure)
    found = {}
    while waiting:
        node = waiting.pop()
        if node not in sure and node not in found:
            found[node] = True
            waiting.extend(_nodes_behind(program, mark, sure, node))
    return found


def _sources(program, mark, sure):
    """The tuples (point, variable) at which a variable has no mark, whatever is ahead."""
    dresses = program.starts()
    begin = ("", program.first, 0)
    found = [(first_point(program.first), name) for name in program.variables
             if mark not in dresses[name] and (begin, name) not in sure]
    for word in reached(program):
        for at, row in enumerate(program.rows(word)):
            given = gift_of(program, row, mark)
            if given is not None and given[1] is None:
                found.append(((word, "", at + 1), given[0]))
    return found


def _nodes_behind(program, mark, sure, node):
    """The tuples (point, variable) that are unsure because this one is, if nothing is put there."""
    (word, _, at), name = node
    rows = program.rows(word)
    if at == len(rows):
        return [(first_point(target), name) for target in program.goes(word)
                if ((word, target, 0), name) not in sure]
    given = gift_of(program, rows[at], mark)
    return [((word, "", at + 1), other) for other in names_behind(given, name)]


def names_behind(given, name):
    """The variables that are unsure behind a row because this one is ahead of it."""
    if given is None:
        return [name]
    changed, parts = given
    found = [] if changed == name else [name]
    if parts is not None and name in parts:
        found.append(changed)
    return found
