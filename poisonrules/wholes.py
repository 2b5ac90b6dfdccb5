"""Whole numbers."""


def is_whole(thing):
    """Whether thing is a whole number: a truth is none, though Python counts it as an int."""
    return isinstance(thing, int) and not isinstance(thing, bool)
