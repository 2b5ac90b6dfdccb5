"""Masks: whole numbers whose ones tell which of some things are there."""


def places_in(mask):
    """The places of the ones in mask, rising."""
    found = []
    while mask:
        low = mask & -mask
        found.append(low.bit_length() - 1)
        mask ^= low
    return found
