"""Whether a rule is right at a width, by all words."""

from poisonrules.kinds import WIDTH
from poisonrules.ruleworths import all_hold, unlet
from poisonrules.terms import consts_of, inputs_of
from poisonrules.tuples import all_numbers, all_worths


def judged(rule, *, width=WIDTH):
    """None where rule is right at width, else the least worths by which it is not, with an outcome."""
    rows = all_worths(len(inputs_of(rule.old)), width)
    for numbers in all_numbers(len(consts_of(rule.old)), width):
        found = least_unlet(rule, numbers, rows, width) if all_hold(rule, numbers, width) else None
        if found is not None:
            return found
    return None


def least_unlet(rule, numbers, rows, width):
    """The first worths of rows by which rule is not right, with the least outcome that is not let, or None."""
    for worths in rows:
        # FAULT is the least of all outcomes, so it is ahead where only new has it.
        outcomes = unlet(rule, numbers, worths, width)
        if len(outcomes) > 0:
            return (numbers + worths, outcomes[0])
    return None
