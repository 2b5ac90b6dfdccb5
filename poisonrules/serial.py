"""Terms bit by bit, the least bit first: their states, what they come to, how they end."""

from poisonrules.ends import ends_of
from poisonrules.lanes import Stepper, numbered_things
from poisonrules.terms import things_of
from poisonrules.tuples import tuples_of

UNSERIAL = ("times", "quot", "rest", "left", "right")


def is_serial(term):
    """Whether term goes bit by bit."""
    return all([thing[0] not in UNSERIAL for thing in things_of(term)])


def is_serial_rule(rule):
    """Whether old and new of rule are serial."""
    return is_serial(rule.old) and is_serial(rule.new)


def starts(term):
    """All states with which term may begin, rising."""
    return tuple(tuples_of([first_numbers(thing) for thing in numbered_things(things_of(term))]))


def first_numbers(thing):
    """The numbers with which thing, or a test, may begin, rising."""
    head = thing[0]
    if head == "num":
        return [thing[1]]
    if head == "froze":
        return [0, 1]
    return [0, 6] if head == "choice" else [0]


def after(term, state, bits):
    """(bit, state behind) to which term comes from state, by a bit for each look, const and froze."""
    return Stepper(things_of(term)).step(bits, state)


def ended(term, state, *, bad=()):
    """How state ends behind a bit at least, by inputs that are bad: none, bad or number."""
    return ends_of(things_of(term)[::-1], [state], bad)[0]
