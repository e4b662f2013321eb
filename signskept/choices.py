"""Choices of some things out of others."""


def parts_of(things):
    """All choices of some things, as tuples, smaller ones first, those of one size ascending."""
    parts = [()]
    for thing in things:
        parts = parts + [part + (thing,) for part in parts]
    return [part for _, part in sorted([(len(part), part) for part in parts])]


def is_part(things, other):
    """Whether all of some different things, but not as many, are among the other ones."""
    return len(things) < len(other) and all([thing in other for thing in things])
