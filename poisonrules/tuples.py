"""Tuples of given things, and whether things rise."""


def tuples_of(rows):
    """All tuples with one thing of each of rows, in the rows' order: rising where each row rises."""
    found = [()]
    for row in rows:
        found = [(*one, thing) for one in found for thing in row]
    return found


def bit_tuples(many):
    """All tuples of so many bits, rising."""
    if many < 2:
        return [(0,), (1,)] if many == 1 else [()]
    ends = bit_tuples(many - many // 2)
    return [one + end for one in bit_tuples(many // 2) for end in ends]


def is_rising(things):
    """Whether things that can be compared rise, each once."""
    return len(things) < 2 or all([one < other for one, other in zip(things, things[1:])])
