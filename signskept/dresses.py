"""What is sure of the upper bits of a register."""

from signskept.checks import is_listed
from signskept.errors import BadDress, BadMark

# The same marks in any order are told by one text.
ORDERED = {"": "", "z": "z", "s": "s", "zs": "zs", "sz": "zs"}

# All texts of marks in the order z, s.
TEXTS = ("", "z", "s", "zs")


def ordered_marks(thing):
    """A text of marks in the order z, s, or None if this is no text of marks."""
    if not isinstance(thing, str):
        return None
    return ORDERED.get(thing)


def marks_of(thing):
    """The marks of a Dress or of a text of marks, or None if this is neither."""
    if isinstance(thing, Dress):
        return thing.marks
    return ordered_marks(thing)


def all_marks(things, many):
    """The marks of so many Dresses or texts in a list or tuple, or None if this is something else."""
    if not is_listed(things) or len(things) != many:
        return None
    found = tuple([marks_of(thing) for thing in things])
    if None in found:
        return None
    return found


def check_mark(thing):
    """Refuse what is neither of the two marks."""
    if not isinstance(thing, str) or thing not in ("z", "s"):
        raise BadMark(thing)


def dress_rows(many):
    """All rows of so many texts of marks."""
    rows = [()]
    for _ in range(many):
        rows = [row + (text,) for row in rows for text in TEXTS]
    return rows


class Dress:
    """A set of the marks z and s."""

    def __init__(self, marks=""):
        ordered = ordered_marks(marks)
        if ordered is None:
            raise BadDress(marks)
        self._marks = ordered

    @property
    def marks(self):
        """The marks as a text, in the order z, s."""
        return self._marks

    def __str__(self):
        if self._marks == "":
            return "-"
        return str(self._marks)

    def __repr__(self):
        return f"Dress({self._marks!r})"

    def __eq__(self, other):
        return isinstance(other, Dress) and self._marks == other._marks

    def __len__(self):
        return len(self._marks)

    def __iter__(self):
        return iter(self._marks)

    def __contains__(self, x):
        return isinstance(x, str) and len(x) == 1 and x in self._marks

    def __and__(self, other):
        return _kept(self._marks, _told(other))

    def __rand__(self, other):
        return _kept(_told(other), self._marks)

    def __or__(self, other):
        return _joined(self._marks, _told(other))

    def __ror__(self, other):
        return _joined(_told(other), self._marks)

    def __sub__(self, other):
        return _left(self._marks, _told(other))

    def __rsub__(self, other):
        return _left(_told(other), self._marks)

    def within(self, other):
        """Whether all marks are marks of the other Dress or text, too."""
        return _left(self._marks, _told(other)).marks == ""

    def widened(self, mark):
        """The dress behind a widening by this mark."""
        check_mark(mark)
        # A register with both marks has the value 0 ahead of the widening, and behind it.
        if self._marks == "zs":
            return Dress("zs")
        return Dress(mark)

    @staticmethod
    def both():
        """The Dress of both marks."""
        return Dress("zs")

    @staticmethod
    def none():
        """The Dress of no marks."""
        return Dress("")


def _told(other):
    """The marks of the other one of two; what is no Dress and no text of marks is refused."""
    marks = marks_of(other)
    if marks is None:
        raise BadDress(other)
    return marks


def _kept(first, second):
    """The Dress of the marks in both texts."""
    return Dress("".join([mark for mark in first if mark in second]))


def _joined(first, second):
    """The Dress of the marks in one of the texts or in both."""
    return Dress("".join([mark for mark in "zs" if mark in first or mark in second]))


def _left(first, second):
    """The Dress of the marks in the first text alone."""
    return Dress("".join([mark for mark in first if mark not in second]))
