"""Which tests of a menu make a rule right."""

from poisonrules.kinds import MOST
from poisonrules.proving import decide
from poisonrules.rules import Rule
from poisonrules.tuples import tuples_of


def learnt(rule, menu, *, most=MOST):
    """All choices of menu's tests by which rule is right, and by no fewer of them, rising; TooMany as in decide."""
    found = []
    for choice in choices_of(len(menu)):
        # Fewer tests come first, and what is right stays so by more of them.
        if not has_part(found, choice) and is_right(rule, [menu[place] for place in choice], most):
            found.append(choice)
    return tuple(sorted(found))


def choices_of(many):
    """All rising tuples of places among so many, the shorter ones first."""
    rows = [tuple([place for place, taken in enumerate(one) if taken]) for one in tuples_of([(False, True)] * many)]
    return sorted(rows, key=len)


def has_part(choices, choice):
    """Whether all places of one of choices are among those of choice."""
    return any([all([place in choice for place in one]) for one in choices])


def is_right(rule, tests, most):
    """Whether rule is right at every width with these tests alone."""
    return decide(Rule(rule.name, rule.old, rule.new, cond=tuple(tests)), most=most)[0] == "right"
