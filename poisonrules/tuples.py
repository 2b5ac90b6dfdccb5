"""All tuples of given things, and with them all worths; whether things rise."""

from poisonrules.kinds import ANY, BAD


def tuples_of(rows):
    """All tuples with one thing of each of rows, in the rows' order: rising where each row rises."""
    found = [()]
    for row in rows:
        found = [(*one, thing) for one in found for thing in row]
    return found


def all_numbers(many, width):
    """All tuples of so many numbers, rising."""
    return tuples_of([list(range(1 << width))] * many)


def all_worths(many, width):
    """All tuples of so many worths of inputs, rising."""
    return tuples_of([[BAD, ANY] + list(range(1 << width))] * many)


def is_rising(things):
    """Whether things that can be compared rise, each once."""
    return all([one < other for one, other in zip(things, things[1:])])
