"""The classes of exceptions of the package, each with the value that was refused."""


class SignsError(ValueError):
    """What is handed in is wrong."""

    def __init__(self, value):
        self.value = value


class BadDress(SignsError):
    """What is handed in is no dress, or no list of dresses, where one is due."""


class BadMark(SignsError):
    """What is handed in is neither "z" nor "s"."""


class BadNumber(SignsError):
    """What is handed in is no integer, or none that may stand there."""


class Unlike(SignsError):
    """What is handed in cannot be joined with this object."""


class BadArity(SignsError):
    """What is handed in is no number of operands."""


class BadWants(SignsError):
    """What is handed in is no tuple of rows of wants."""


class BadOperation(SignsError):
    """What is handed in is no Operation."""


class BadOperands(SignsError):
    """What is handed in is no list of operands for this operation."""


class BadTable(SignsError):
    """What is handed in is no table of operations."""


class BadBlocks(SignsError):
    """What is handed in are no blocks, or no first one of them."""


class BadStarts(SignsError):
    """What is handed in are no dresses for the beginning."""


class BadRow(SignsError):
    """What is handed in is no row, or none that may stand there."""


class BadProgram(SignsError):
    """What is handed in is no Program."""


class BadRoad(SignsError):
    """What is handed in is no road of the program, or does not lead on."""


class BadRun(SignsError):
    """What is handed in is no run of bits."""


class BadText(SignsError):
    """What is handed in is no text that could be read."""


class BadDraft(SignsError):
    """What is handed in is no Draft."""


class BadKind(SignsError):
    """What is handed in is neither True nor False."""


class NotSimple(SignsError):
    """A row, or a function, is not simple in a mark."""


class NoEnd(SignsError):
    """From a block no end of a road can be come to."""


class BadPuts(SignsError):
    """What is handed in are no puts for the program."""


class BadFrequencies(SignsError):
    """What is handed in are no frequencies of goes."""


class BadFlow(SignsError):
    """What is handed in is no flow."""


class BadFunctions(SignsError):
    """What is handed in is no dict of functions."""


class BadFunction(SignsError):
    """A function breaks a rule."""


class BadGroup(SignsError):
    """What is handed in is no Group."""


class BadPromises(SignsError):
    """What is handed in are no promises of functions."""


class BadPromise(SignsError):
    """What is handed in is no promise of this function."""


class BadBook(SignsError):
    """What is handed in is no Book that fits."""


class BadBooks(SignsError):
    """What is handed in are no books of all functions."""


class BadTurns(SignsError):
    """What is handed in are no turns."""


class BadChange(SignsError):
    """What is handed in is no change that can be made."""


class BadChosen(SignsError):
    """What is handed in is no choice of changes that can be made at once."""


class Absent(KeyError):
    """What is asked for is not there."""

    def __init__(self, value):
        self.value = value


class NoOperation(Absent):
    """There is no operation of this word."""


class NoBlock(Absent):
    """There is no block of this word."""


class NoPlace(Absent):
    """There is no such place of a row, or no such places."""


class NoVariable(Absent):
    """There is no variable of this word."""


class NoEntry(Absent):
    """There is no such entry in the table."""


class NoFunction(Absent):
    """There is no function of this word."""


class TooLarge(OverflowError):
    """A table, or a program, would be too large."""

    def __init__(self, value):
        self.value = value


class TooMany(OverflowError):
    """There are more things to choose from than may be tried."""

    def __init__(self, value):
        self.value = value


class NothingToUndo(RuntimeError):
    """There is no change that could be taken back."""
