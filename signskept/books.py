"""What functions promise of their parameters and answers, and their programs by such promises."""

from signskept.dresses import Dress, ordered_marks
from signskept.errors import BadBook, BadPromise, BadPromises, NoFunction, Unlike
from signskept.functions import (RETURN, check_function, check_group, is_function, own_table,
                                 plain_program, start_marks)
from signskept.operations import Operation
from signskept.programs import Program
from signskept.tables import is_right


class Book:
    """For each function of a group what callers make sure, and what it makes sure of its answer."""

    def __init__(self, group, promises=None):
        check_group(group)
        if promises is not None and not _are_promises(group, promises):
            raise BadPromises(promises)
        given = {} if promises is None else promises
        self._group = group
        self._promises = {word: _promise_in(group, word, given) for word in group.words}

    def __getitem__(self, at):
        if not is_function(self._group, at):
            raise NoFunction(at)
        return self._promises[at]

    def __setitem__(self, at, worth):
        if not is_function(self._group, at):
            raise NoFunction(at)
        promise = _read_promise(self._group, at, worth)
        if promise is None:
            raise BadPromise(worth)
        self._promises[at] = promise

    def __iter__(self):
        raise TypeError("a Book is not iterated over: ask for the promise of a function")

    def __eq__(self, other):
        return (isinstance(other, Book) and self._group == other._group
                and self._promises == other._promises)

    def __len__(self):
        return len("".join([text for word in self._promises for text in _texts_in(self._promises[word])]))

    def __and__(self, other):
        _check_like(self, other)
        return Book(self._group, {word: _shared(self[word], other[word]) for word in self._promises})

    def __or__(self, other):
        _check_like(self, other)
        return Book(self._group, {word: _united(self[word], other[word]) for word in self._promises})

    def within(self, other):
        """Whether the other Book promises all that this one does."""
        return (self & other) == self


def alone(group, word, book):
    """The Program of one function, by what a book promises."""
    check_group(group)
    check_function(group, word)
    check_book(group, book)
    parameters, answer = group.function(word)
    wants, gives = book[word]
    table = own_table(group, word)
    for _, callee in group.calls(word):
        table[callee] = _promised_operation(book[callee])
    if answer is not None:
        table[RETURN] = Operation(1, ((gives,),))
    program = plain_program(group, word)
    blocks = {name: _returning(program, name, answer) for name in program.words}
    return Program(program.first, blocks, starts=dict(zip(parameters, wants)), table=table)


def is_kept(group, book):
    """Whether all functions are right by a book, which asks of the entry no more than starts tell."""
    check_group(group)
    check_book(group, book)
    if beyond_starts(group, book):
        return False
    for word in group.words:
        if not is_right(alone(group, word, book)):
            return False
    return True


def is_book_for(group, thing):
    """Whether this is a Book of an equal group."""
    return isinstance(thing, Book) and thing._group == group


def check_book(group, thing):
    """Refuse what is no Book of an equal group."""
    if not is_book_for(group, thing):
        raise BadBook(thing)


def beyond_starts(group, book):
    """What a book promises of the parameters of the entry beyond starts, as tuples (index, mark)."""
    sure = start_marks(group)
    parameters, _ = group.function(group.entry)
    wants, _ = book[group.entry]
    return [(at, mark) for at, want in enumerate(wants) for mark in want if mark not in sure[parameters[at]]]


def _check_like(one, other):
    """Refuse what is no Book of a group that is equal to that of this one."""
    if not is_book_for(one._group, other):
        raise Unlike(other)


def _are_promises(group, thing):
    """Whether this is a dict of some functions and their promises."""
    if not isinstance(thing, dict) or not all([is_function(group, word) for word in thing]):
        return False
    return all([_read_promise(group, word, thing[word]) is not None for word in thing])


def _promise_in(group, word, promises):
    """What a dict of promises says of a function; nothing is promised if it does not speak of it."""
    if word not in promises:
        return (("",) * len(group.function(word)[0]), "")
    return _read_promise(group, word, promises[word])


def _read_promise(group, word, thing):
    """A promise of a function with its marks in order, or None if this is none."""
    if not isinstance(thing, tuple) or len(thing) != 2 or not isinstance(thing[0], tuple):
        return None
    parameters, answer = group.function(word)
    wants = tuple([ordered_marks(text) for text in thing[0]])
    gives = ordered_marks(thing[1])
    if len(wants) != len(parameters) or None in wants or gives is None:
        return None
    if answer is None and gives != "":
        return None
    return (wants, gives)


def _texts_in(promise):
    """The texts of marks of a promise."""
    return promise[0] + (promise[1],)


def _shared(one, other):
    """What both of two promises of a function promise."""
    texts = [(Dress(text) & more).marks for text, more in zip(_texts_in(one), _texts_in(other))]
    return (tuple(texts[:-1]), texts[-1])


def _united(one, other):
    """What one of two promises of a function promises, or both do."""
    texts = [(Dress(text) | more).marks for text, more in zip(_texts_in(one), _texts_in(other))]
    return (tuple(texts[:-1]), texts[-1])


def _promised_operation(promise):
    """The Operation that stands for the calls of a function."""
    wants, gives = promise
    nothing = ("",) * len(wants)
    z = (nothing,) if "z" in gives else ()
    s = (nothing,) if "s" in gives else ()
    return Operation(len(wants), (wants,), z=z, s=s)


def _returning(program, name, answer):
    """The rows and goes of a block, with a row that returns the answer, if one is due there."""
    rows, goes = program.rows(name), program.goes(name)
    if answer is None or goes != ():
        return (rows, goes)
    return (rows + (("do", None, RETURN, answer),), goes)
