"""Tests of plain values that several modules ask for."""

LETTERS = "abcdefghijklmnopqrstuvwxyz"


def is_whole(thing):
    """Whether this is an integer; True and False are none."""
    return isinstance(thing, int) and not isinstance(thing, bool)


def is_between(thing, least, most):
    """Whether this is an integer from least to most."""
    return is_whole(thing) and least <= thing <= most


def is_word(thing):
    """Whether this is a text of one to eight small letters."""
    if not isinstance(thing, str) or not 1 <= len(thing) <= 8:
        return False
    return all([letter in LETTERS for letter in thing])


def is_listed(thing):
    """Whether this is a list or a tuple."""
    return isinstance(thing, (list, tuple))


def is_run(thing, most):
    """Whether this is a tuple of two tuples of integers from 0 to most."""
    if not isinstance(thing, tuple) or len(thing) != 2:
        return False
    if not isinstance(thing[0], tuple) or not isinstance(thing[1], tuple):
        return False
    return all([is_between(bits, 0, most) for bits in thing[0] + thing[1]])
