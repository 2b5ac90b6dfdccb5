"""Masks: whole numbers whose ones tell which of some things are there."""


def places_in(mask):
    """The places of the ones in mask, rising."""
    found = []
    while mask:
        low = mask & -mask
        found.append(low.bit_length() - 1)
        mask ^= low
    return found


def repeated(mask, size, times):
    """A mask of so many places, repeated so many times."""
    return mask * (((1 << size * times) - 1) // ((1 << size) - 1))
