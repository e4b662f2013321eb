"""What an operation needs of its operands, and what its answer is sure to have."""

from signskept.checks import is_between
from signskept.dresses import TEXTS, Dress, all_marks, dress_rows
from signskept.errors import BadArity, BadDress, BadOperation, BadWants

MOST_ROWS = 4


def _is_wants(thing, arity):
    """Whether this is a row of wants for so many operands."""
    if not isinstance(thing, tuple) or len(thing) != arity:
        return False
    return all([isinstance(want, str) and want in TEXTS for want in thing])


def _is_rows(thing, arity, least):
    """Whether this is a tuple of at least so many rows of wants, and of not too many."""
    if not isinstance(thing, tuple) or not least <= len(thing) <= MOST_ROWS:
        return False
    return all([_is_wants(row, arity) for row in thing])


def wants_hold(wants, marks):
    """Whether a row of wants holds for the marks of the operands."""
    return all([want in ("", have) or have == "zs" for want, have in zip(wants, marks)])


def one_holds(rows, marks):
    """Whether one of these rows of wants holds for the marks of the operands."""
    return any([wants_hold(wants, marks) for wants in rows])


class Operation:
    """An operation, told by the dresses of its operands."""

    def __init__(self, arity, needs=None, *, z=(), s=()):
        if not is_between(arity, 0, 3):
            raise BadArity(arity)
        if needs is not None and not _is_rows(needs, arity, 1):
            raise BadWants(needs)
        if not _is_rows(z, arity, 0):
            raise BadWants(z)
        if not _is_rows(s, arity, 0):
            raise BadWants(s)
        self._arity = arity
        self._needs = (("",) * arity,) if needs is None else needs
        self._z = z
        self._s = s

    @property
    def arity(self):
        """How many operands there are."""
        return self._arity

    @property
    def needs(self):
        """The rows of wants of which one must hold."""
        return self._needs

    @property
    def z(self):
        """The rows of wants of which one makes the mark z sure."""
        return self._z

    @property
    def s(self):
        """The rows of wants of which one makes the mark s sure."""
        return self._s

    def __eq__(self, other):
        return (isinstance(other, Operation) and self._arity == other._arity
                and self._needs == other._needs and self._z == other._z and self._s == other._s)

    def holds(self, dresses):
        """Whether a need holds for the dresses of the operands."""
        return one_holds(self._needs, _operand_marks(self, dresses))

    def gives(self, dresses):
        """The Dress of the answer for the dresses of the operands."""
        return Dress(given_marks(self, _operand_marks(self, dresses)))

    def serves(self, other):
        """Whether this operation may stand in the place of the other one."""
        if not isinstance(other, Operation):
            raise BadOperation(other)
        if self._arity != other._arity:
            return False
        return all([_serves_for(self, other, marks) for marks in dress_rows(self._arity)])


def given_marks(operation, marks):
    """The marks of the answer for the marks of the operands."""
    given = ""
    if one_holds(operation.z, marks):
        given = "z"
    if one_holds(operation.s, marks):
        given = given + "s"
    return given


def _operand_marks(operation, dresses):
    """The marks of the operands; what are no dresses for them is refused."""
    marks = all_marks(dresses, operation.arity)
    if marks is None:
        raise BadDress(dresses)
    return marks


def _serves_for(one, other, marks):
    """Whether one may stand for the other where the operands have these marks."""
    if not other.holds(marks):
        return True
    return one.holds(marks) and other.gives(marks).within(one.gives(marks))
