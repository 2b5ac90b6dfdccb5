"""Checks of what is told against a rule at a width."""

from poisonrules.kinds import BAD, WIDTH
from poisonrules.ruleworths import all_hold, unlet
from poisonrules.terms import consts_of, inputs_of
from poisonrules.wholes import is_whole


def judge_holds(rule, thing, *, width=WIDTH):
    """Whether thing is (worths, outcome) by which rule is not right at width."""
    if not isinstance(thing, tuple) or len(thing) != 2:
        return False
    worths, outcome = thing
    if not is_whole(outcome) or not are_worths(rule, worths, width):
        return False
    many = len(consts_of(rule.old))
    numbers = worths[:many]
    return all_hold(rule, numbers, width) and outcome in unlet(rule, numbers, worths[many:], width)


def are_worths(rule, thing, width):
    """Whether thing is a tuple of numbers of rule's constants, then worths of its inputs."""
    lows = [0] * len(consts_of(rule.old)) + [BAD] * len(inputs_of(rule.old))
    if not isinstance(thing, tuple) or len(thing) != len(lows):
        return False
    return all([is_whole(worth) and low <= worth < 1 << width for worth, low in zip(thing, lows)])
