"""Registers of wide bits with a value of narrow bits."""

from signskept.checks import is_between, is_whole
from signskept.dresses import Dress, check_mark, marks_of
from signskept.errors import BadDress, BadNumber, Unlike

MOST_WIDE = 32


def ones(many):
    """The number of so many bits that are all 1."""
    return (1 << many) - 1


def signed_number(bits, size):
    """The number that so many bits tell, the highest of them being the sign."""
    if bits >> (size - 1):
        return bits - (1 << size)
    return bits


def true_marks(bits, narrow, wide):
    """The marks that are true of a register with these bits, as a text."""
    above = bits >> narrow
    top = (bits >> (narrow - 1)) & 1
    marks = ""
    if above == 0:
        marks = "z"
    if above == top * ones(wide - narrow):
        marks = marks + "s"
    return marks


def widened_bits(bits, mark, narrow, wide):
    """The bits with the upper ones made 0, or like the top bit."""
    low = bits & ones(narrow)
    if mark == "z":
        return low
    return signed_number(low, narrow) & ones(wide)


def check_sizes(narrow, wide, most=MOST_WIDE):
    """Refuse numbers of bits that no register has, or a wide above most."""
    if not is_between(narrow, 2, 30):
        raise BadNumber(narrow)
    if not is_between(wide, narrow + 2, most):
        raise BadNumber(wide)


class Wide:
    """A register: its bits, how many of them are the low ones, and how many there are."""

    def __init__(self, value, *, narrow, wide):
        if not is_whole(value):
            raise BadNumber(value)
        check_sizes(narrow, wide)
        self._bits = value & ones(wide)
        self._narrow = narrow
        self._wide = wide

    @property
    def bits(self):
        """The register as an integer from 0 on."""
        return self._bits

    @property
    def narrow(self):
        """How many low bits there are."""
        return self._narrow

    @property
    def wide(self):
        """How many bits there are in all."""
        return self._wide

    @property
    def low(self):
        """The low bits as an integer from 0 on."""
        return self._bits & ones(self._narrow)

    @property
    def above(self):
        """The upper bits as an integer from 0 on."""
        return self._bits >> self._narrow

    @property
    def top(self):
        """The highest low bit."""
        return (self._bits >> (self._narrow - 1)) & 1

    @property
    def dress(self):
        """The Dress of the marks that are true."""
        return Dress(true_marks(self._bits, self._narrow, self._wide))

    def signed(self):
        """The register as a number, the highest of all its bits being the sign."""
        return signed_number(self._bits, self._wide)

    def __eq__(self, other):
        return (isinstance(other, Wide) and self._bits == other._bits
                and self._narrow == other._narrow and self._wide == other._wide)

    def __repr__(self):
        return f"Wide({self._bits}, narrow={self._narrow}, wide={self._wide})"

    def __add__(self, other):
        return _like(self, self._bits + _number(self, other))

    def __radd__(self, other):
        return _like(self, _number(self, other) + self._bits)

    def __sub__(self, other):
        return _like(self, self._bits - _number(self, other))

    def __rsub__(self, other):
        return _like(self, _number(self, other) - self._bits)

    def __mul__(self, other):
        return _like(self, self._bits * _number(self, other))

    def __rmul__(self, other):
        return _like(self, _number(self, other) * self._bits)

    def __and__(self, other):
        return _like(self, self._bits & _number(self, other))

    def __rand__(self, other):
        return _like(self, _number(self, other) & self._bits)

    def __or__(self, other):
        return _like(self, self._bits | _number(self, other))

    def __ror__(self, other):
        return _like(self, _number(self, other) | self._bits)

    def __xor__(self, other):
        return _like(self, self._bits ^ _number(self, other))

    def __rxor__(self, other):
        return _like(self, _number(self, other) ^ self._bits)

    def __neg__(self):
        return _like(self, -self._bits)

    def __invert__(self):
        return _like(self, ~self._bits)

    def __lshift__(self, other):
        return _like(self, self._bits << _count(self, other))

    def __rshift__(self, other):
        return _like(self, self._bits >> _count(self, other))

    def widened(self, mark):
        """The same low bits, the upper ones made 0 or like the top bit."""
        check_mark(mark)
        return _like(self, widened_bits(self._bits, mark, self._narrow, self._wide))

    @staticmethod
    def fresh(dress, *, narrow, wide):
        """A Wide of which just the marks of this Dress or text are true."""
        marks = marks_of(dress)
        if marks is None:
            raise BadDress(dress)
        check_sizes(narrow, wide)
        return Wide(fresh_bits(marks, narrow, wide), narrow=narrow, wide=wide)


def fresh_bits(marks, narrow, wide):
    """The bits of a register of which just these marks are true."""
    if marks == "zs":
        return 0
    top = 1 << (narrow - 1)
    if marks == "z":
        return top
    if marks == "s":
        return top | (ones(wide - narrow) << narrow)
    return top | (1 << narrow)


def _like(one, bits):
    """A Wide of the same narrow and wide with these bits."""
    return Wide(bits, narrow=one.narrow, wide=one.wide)


def _number(one, other):
    """The other one of two operands as a number; what does not go with this Wide is refused."""
    if isinstance(other, Wide) and other.narrow == one.narrow and other.wide == one.wide:
        return other.bits
    if is_whole(other):
        return other
    raise Unlike(other)


def _count(one, thing):
    """By how many places the bits are moved; what is no such number is refused."""
    if not is_between(thing, 0, one.wide):
        raise BadNumber(thing)
    return thing
