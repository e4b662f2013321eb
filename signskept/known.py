"""The known operations: what they need and give, and what they reckon."""

from signskept.checks import is_listed
from signskept.dresses import all_marks
from signskept.errors import BadDress, BadOperands, NoOperation
from signskept.operations import Operation
from signskept.wides import Wide, check_sizes, ones, signed_number, true_marks

# More bits would make the search of all pairs of registers long.
MOST_SEARCHED = 7

# For each word: the number of operands, the needs, and the rows of wants for z and for s.
KNOWN = {
    "load": (0, None, (), ()),
    "loadz": (0, None, ((),), ()),
    "loads": (0, None, (), ((),)),
    "one": (0, None, ((),), ((),)),
    "add": (2, None, (), ()),
    "sub": (2, None, (), ()),
    "mul": (2, None, (), ()),
    "neg": (1, None, (), ()),
    "shl": (1, None, (), ()),
    "and": (2, None, (("z", ""), ("", "z")), (("s", "s"),)),
    "or": (2, None, (("z", "z"),), (("s", "s"),)),
    "xor": (2, None, (("z", "z"),), (("s", "s"),)),
    "not": (1, None, (), (("s",),)),
    "shr": (1, (("z",),), (("z",),), (("z",),)),
    "sar": (1, (("s",),), (("zs",),), (("s",),)),
    "udiv": (2, (("z", "z"),), (("z", "z"),), ()),
    "urem": (2, (("z", "z"),), (("z", "z"),), ()),
    "sdiv": (2, (("s", "s"),), (), ()),
    "srem": (2, (("s", "s"),), (), (("s", "s"),)),
    "ult": (2, (("z", "z"), ("s", "s")), (("", ""),), (("", ""),)),
    "equ": (2, (("z", "z"), ("s", "s")), (("", ""),), (("", ""),)),
    "slt": (2, (("s", "s"),), (("", ""),), (("", ""),)),
    "store": (2, None, (), ()),
}


def known_words():
    """The words of all known operations."""
    return list(KNOWN)


def is_known(thing):
    """Whether this is the word of a known operation."""
    return isinstance(thing, str) and thing in KNOWN


def known(word):
    """The Operation of a word."""
    if not is_known(word):
        raise NoOperation(word)
    arity, needs, z, s = KNOWN[word]
    return Operation(arity, needs, z=z, s=s)


def reckon(word, operands):
    """The Wide that an operation answers with wide registers."""
    _check_operands(word, operands)
    narrow, wide = operands[0].narrow, operands[0].wide
    answer = _answer(word, [one.bits for one in operands], wide)
    return Wide(answer, narrow=narrow, wide=wide)


def narrowly(word, operands):
    """The low bits that an operation answers with registers that have no upper bits."""
    _check_operands(word, operands)
    return _answer(word, [one.low for one in operands], operands[0].narrow)


def difference(word, dresses, *, narrow, wide):
    """Wides of these dresses for which wide and narrow reckoning differ, or None."""
    marks = all_marks(dresses, _reckoned_operation(word).arity)
    if marks is None:
        raise BadDress(dresses)
    check_sizes(narrow, wide, MOST_SEARCHED)
    rows = [()]
    for text in marks:
        choices = _dressed_bits(text, narrow, wide)
        rows = [row + (bits,) for row in rows for bits in choices]
    for row in rows:
        if _differs(word, row, narrow, wide):
            return tuple([Wide(bits, narrow=narrow, wide=wide) for bits in row])
    return None


def _reckoned_operation(word):
    """The Operation of a word that reckons something from operands."""
    operation = known(word)
    if operation.arity == 0 or word == "store":
        raise NoOperation(word)
    return operation


def _check_operands(word, operands):
    """Refuse a word that reckons nothing, and what are no Wides that go together for it."""
    arity = _reckoned_operation(word).arity
    if not is_listed(operands) or len(operands) != arity:
        raise BadOperands(operands)
    if not all([isinstance(one, Wide) for one in operands]):
        raise BadOperands(operands)
    sizes = [(one.narrow, one.wide) for one in operands]
    if not all([size == sizes[0] for size in sizes]):
        raise BadOperands(operands)


def _dressed_bits(text, narrow, wide):
    """The bits of all registers of which these marks are true."""
    found = []
    for bits in range(1 << wide):
        true = true_marks(bits, narrow, wide)
        if all([mark in true for mark in text]):
            found.append(bits)
    return found


def _differs(word, row, narrow, wide):
    """Whether the low bits of the answer are other ones than those of narrow reckoning."""
    low = ones(narrow)
    widely = _answer(word, row, wide) & low
    return widely != _answer(word, [bits & low for bits in row], narrow)


def _answer(word, row, size):
    """The bits of the answer for registers of this size with a row of bits."""
    if len(row) == 1:
        answer = _answer_of_one(word, row[0], size)
    elif word in ("sdiv", "srem", "slt"):
        answer = _signed_answer(word, signed_number(row[0], size), signed_number(row[1], size))
    else:
        answer = _plain_answer(word, row[0], row[1])
    return answer & ones(size)


def _answer_of_one(word, bits, size):
    """What an operation with one operand answers."""
    if word == "neg":
        return -bits
    if word == "not":
        return ~bits
    if word == "shl":
        return bits << 1
    if word == "shr":
        return bits >> 1
    return signed_number(bits, size) >> 1


def _plain_answer(word, one, other):
    """What an operation with two operands answers that goes by the bits."""
    match word:
        case "add":
            return one + other
        case "sub":
            return one - other
        case "mul":
            return one * other
        case "and":
            return one & other
        case "or":
            return one | other
        case "xor":
            return one ^ other
        case "udiv":
            return _quotient(one, other)
        case "urem":
            return one - other * _quotient(one, other)
        case "ult":
            return int(one < other)
    return int(one == other)


def _signed_answer(word, one, other):
    """What an operation with two operands answers that goes by the signed numbers."""
    if word == "sdiv":
        return _quotient(one, other)
    if word == "srem":
        return one - other * _quotient(one, other)
    return int(one < other)


def _quotient(one, other):
    """The quotient without its fraction, 0 where the second number is 0."""
    if other == 0:
        return 0
    size = abs(one) // abs(other)
    if (one < 0) != (other < 0):
        return -size
    return size
