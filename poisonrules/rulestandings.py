"""Standings of a rule: for each of its inputs whether it is a number, ANY or BAD."""

from poisonrules.terms import inputs_of
from poisonrules.tuples import tuples_of

NUMBER = 0
WILD = 1
POISONED = 2


def standings_of(rule):
    """All standings of rule, rising."""
    return tuples_of([(NUMBER, WILD, POISONED)] * len(inputs_of(rule.old)))


def told_so(names, standing, told):
    """Those of some inputs' names that a standing tells to be so."""
    return [name for name, one in zip(names, standing) if one == told]
