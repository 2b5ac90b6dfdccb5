"""Whole numbers."""


def is_whole(thing):
    """Whether thing is a whole number: a truth is none, though Python counts it as an int."""
    return isinstance(thing, int) and not isinstance(thing, bool)


def are_wholes(things):
    """Whether all of things are whole numbers."""
    return all([isinstance(one, int) and one is not True and one is not False for one in things])
