"""Point [28]: the classes of exceptions."""

import unittest

from signskept import errors
from tests.helpers import Case, odd_values

UNDER_SIGNS = """BadDress BadMark BadNumber Unlike BadArity BadWants BadOperation BadOperands BadTable
BadBlocks BadStarts BadRow BadProgram BadRoad BadRun BadText BadDraft BadKind NotSimple NoEnd BadPuts
BadFrequencies BadFlow BadFunctions BadFunction BadGroup BadPromises BadPromise BadBook BadBooks
BadTurns BadChange BadChosen""".split()
UNDER_ABSENT = "NoOperation NoBlock NoPlace NoVariable NoEntry NoFunction".split()
UNDER_OVERFLOW = "TooLarge TooMany".split()
WITH_VALUE = ["SignsError", "Absent"] + UNDER_SIGNS + UNDER_ABSENT + UNDER_OVERFLOW
ALL = WITH_VALUE + ["NothingToUndo"]


def told_bases(name):
    """The names of the classes under which this one stands, those of Python among them."""
    if name in UNDER_SIGNS:
        return ["SignsError", "ValueError"]
    if name in UNDER_ABSENT:
        return ["Absent", "KeyError"]
    if name in UNDER_OVERFLOW:
        return ["OverflowError"]
    return {"SignsError": ["ValueError"], "Absent": ["KeyError"], "NothingToUndo": ["RuntimeError"]}[name]


class Places(Case):
    def test_there_are_just_these_classes(self):
        found = [name for name, thing in vars(errors).items() if isinstance(thing, type)]
        self.assertEqual(sorted(found), sorted(ALL))

    def test_each_class_stands_where_it_is_told(self):
        python = {kind.__name__: kind for kind in (ValueError, KeyError, OverflowError, RuntimeError)}
        for name in ALL:
            kind = getattr(errors, name)
            for other in ALL:
                due = other == name or other in told_bases(name)
                self.assertEqual(issubclass(kind, getattr(errors, other)), due, (name, other))
            for other in python:
                self.assertEqual(issubclass(kind, python[other]), other in told_bases(name), (name, other))
            self.assertEqual(issubclass(kind, LookupError), "KeyError" in told_bases(name), name)
            self.assertEqual(issubclass(kind, ArithmeticError), "OverflowError" in told_bases(name), name)

    def test_each_is_defined_in_its_module(self):
        for name in ALL:
            self.assertEqual(getattr(errors, name).__module__, "signskept.errors")


class Values(Case):
    def test_value_is_what_was_handed_in(self):
        for name in WITH_VALUE:
            for value in odd_values():
                self.assertIs(getattr(errors, name)(value).value, value)
                self.assertIs(getattr(errors, name)(value=value).value, value)
                with self.assertRaises(getattr(errors, name)) as caught:
                    raise getattr(errors, name)(value)
                self.assertIs(caught.exception.value, value)

    def test_value_is_needed(self):
        for name in WITH_VALUE:
            self.assertRaises(TypeError, getattr(errors, name))

    def test_nothing_to_undo_has_none(self):
        with self.assertRaises(RuntimeError) as caught:
            raise errors.NothingToUndo()
        self.assertIs(type(caught.exception), errors.NothingToUndo)


if __name__ == "__main__":
    unittest.main()
