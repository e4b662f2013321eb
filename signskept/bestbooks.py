"""The promises by one mark with which all functions of a group together cost the least."""

from signskept.books import Book, alone, beyond_starts, is_book_for
from signskept.choices import parts_of
from signskept.cuts import Cheapest
from signskept.dresses import check_mark
from signskept.errors import BadBook, TooMany
from signskept.functions import check_group, start_marks
from signskept.joined import (check_group_frequencies, check_simple_group, group_ways, returns_of,
                              unpromised)
from signskept.nets import least_cut

MOST_PROMISED = 6


def plain_books(group, mark):
    """All plain books by a mark, those with fewer marks first."""
    check_group(group)
    check_mark(mark)
    slots = _slots(group, mark)
    if len(slots) > MOST_PROMISED:
        raise TooMany(group)
    for chosen in parts_of(slots):
        yield _book_of(group, mark, chosen)


def book_cost(group, mark, book, frequencies=None):
    """What the cheapest puts of all functions cost together, by a plain book."""
    check_group(group)
    check_mark(mark)
    if not is_book_for(group, book) or not _is_plain(group, mark, book):
        raise BadBook(book)
    check_group_frequencies(group, frequencies)
    check_simple_group(group, mark)
    often = {} if frequencies is None else frequencies
    return sum([Cheapest(alone(group, word, book), mark, often.get(word)).cost for word in group.words])


def _slots(group, mark):
    """What can be promised: tuples of a function and the index of a parameter, or -1 for its answer."""
    sure = start_marks(group)
    found = []
    for word in group.words:
        parameters, answer = group.function(word)
        if answer is not None:
            found.append((word, -1))
        for at, name in enumerate(parameters):
            if word != group.entry or mark in sure[name]:
                found.append((word, at))
    return found


def _book_of(group, mark, chosen):
    """The Book in which just the chosen parameters and answers have the mark."""
    promises = {}
    for word in group.words:
        parameters, _ = group.function(word)
        wants = [mark if (word, at) in chosen else "" for at in range(len(parameters))]
        promises[word] = (tuple(wants), mark if (word, -1) in chosen else "")
    return Book(group, promises)


def _is_plain(group, mark, book):
    """Whether a book promises no other mark, and of the parameters of the entry no more than starts."""
    if beyond_starts(group, book):
        return False
    texts = [text for word in group.words for text in book[word][0] + (book[word][1],)]
    return all([text in ("", mark) for text in texts])


class BestBook:
    """A plain book of which no plain one costs less, with puts, and with a flow that shows it."""

    def __init__(self, group, mark, frequencies=None):
        check_group(group)
        check_mark(mark)
        check_group_frequencies(group, frequencies)
        check_simple_group(group, mark)
        cut, come, flow = least_cut(group_ways(group, mark, frequencies))
        self._group = group
        self._mark = mark
        self._chosen = _sure_slots(group, mark, cut, come)
        self._puts = {word: [] for word in group.words}
        for word, spot, name in cut:
            self._puts[word].append((spot, name))
        self._flow = flow

    @property
    def cost(self):
        """What the puts cost together."""
        return sum([amount for amount, _ in self._flow])

    @property
    def puts(self):
        """For each function its puts, ascending."""
        return {word: list(self._puts[word]) for word in self._puts}

    @property
    def flow(self):
        """A flow of joined paths whose sum is the cost."""
        return list(self._flow)

    def book(self):
        """The book, a new one each time."""
        return _book_of(self._group, self._mark, self._chosen)


def _sure_slots(group, mark, cut, come):
    """The parameters and answers that are sure behind a cut, wherever they come from."""
    programs = unpromised(group)
    found = []
    for word, at in _slots(group, mark):
        parameters, answer = group.function(word)
        body = programs[word]
        if at >= 0:
            lost = (word, ("", body.first, 0), parameters[at]) in come
        else:
            nodes = [(word, (block, "", row), answer) for block, row in returns_of(body, answer)]
            lost = any([node in come and node not in cut for node in nodes])
        if not lost:
            found.append((word, at))
    return found
