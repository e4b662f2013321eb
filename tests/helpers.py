"""What several tests need: values of odd kinds, and a test case that asks what was refused."""

import unittest


class Angry:
    """A value that answers no question at all."""

    def __eq__(self, other):
        raise AssertionError("compared")

    def __hash__(self):
        raise AssertionError("hashed")

    def __bool__(self):
        raise AssertionError("tested")

    def __len__(self):
        raise AssertionError("measured")

    def __iter__(self):
        raise AssertionError("iterated over")


class Agreeable:
    """A value that says it is equal to everything."""

    def __eq__(self, other):
        return True

    def __hash__(self):
        return hash("z")


def odd_values():
    """Values that are of no kind that the package asks for as a number, a text or a tuple."""
    return [None, True, False, 1.5, b"z", object(), int, len, [], {}, set(), Angry(), Agreeable(),
            [Angry()], (Angry(),), [Agreeable()], (Agreeable(), Agreeable()), {"z": Angry()},
            ([], []), ("p", []), ("p", None), ("p", True), [["z"]], (("z",),), {1: 2}, "z y", "\u00e9"]


class Case(unittest.TestCase):
    """A test case with a question for exceptions and the value that they carry."""

    def refused(self, error, value, call, *told, **named):
        """The call raises just this error, with just this value."""
        with self.assertRaises(error) as caught:
            call(*told, **named)
        self.assertIs(type(caught.exception), error)
        self.assertIs(caught.exception.value, value)

    def refused_while(self, error, value, call, *told, **named):
        """The call raises nothing, but iterating over what it returned does."""
        yielded = call(*told, **named)
        self.refused(error, value, lambda: next(iter(yielded)))
