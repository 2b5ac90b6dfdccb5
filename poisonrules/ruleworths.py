"""A rule by numbers of its constants and worths of its inputs, each as they rise."""

from poisonrules.outcomes import is_let, outcomes_by
from poisonrules.reckoning import holds
from poisonrules.terms import consts_of, inputs_of


def all_hold(rule, numbers, width):
    """Whether all tests of rule hold by numbers of its constants."""
    named = dict(zip(consts_of(rule.old), numbers))
    return all([is_met(test, named, width) for test in rule.cond])


def is_met(test, named, width):
    """Whether a test holds by a dict of constants' numbers."""
    comparison, one, other = test
    # A test's terms have no inputs and no flags: each comes to just one number.
    return holds(comparison, outcomes_by(one, {}, named, width)[0], outcomes_by(other, {}, named, width)[0], width)


def unlet(rule, numbers, worths, width):
    """The outcomes of rule's new that by themselves are not let by old's, rising.

    They are none just where all of new's together are let.
    """
    named = dict(zip(consts_of(rule.old), numbers))
    looked = dict(zip(inputs_of(rule.old), worths))
    old = outcomes_by(rule.old, looked, named, width)
    return [outcome for outcome in outcomes_by(rule.new, looked, named, width) if not is_let((outcome,), old)]
