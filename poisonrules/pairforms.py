"""Of anything, whether it is a standing, letters, or a pair of a rule."""

from poisonrules.serial import stated_things
from poisonrules.terms import FLAGGED
from poisonrules.tuples import is_rising
from poisonrules.wholes import is_whole


def forms_of(term):
    """For each number of a state of term those that it may be."""
    return [form_of(thing) for thing in stated_things(term)]


def form_of(thing):
    """The numbers that thing may have in a state."""
    if thing[0] == "num":
        return halves_of(thing[1])
    if thing[0] in FLAGGED:
        return (0, 1, 2, 3)
    return (0, 1) if thing[0] == "froze" else tuple(range(12))


def halves_of(number):
    """number, and it halved, rounded down, as often as that tells another one."""
    found = [number]
    while found[-1] not in (0, -1):
        found.append(found[-1] >> 1)
    return tuple(found)


def news_forms(rule):
    """As forms_of, for the news of rule."""
    forms = []
    for test in rule.cond:
        forms.extend([tuple(range(6)), *forms_of(test[1]), *forms_of(test[2])])
    return forms + forms_of(rule.new)


def olds_forms(rule):
    """As forms_of, for each of a pair's olds."""
    return [(0, 1), *forms_of(rule.old)]


def has_forms(thing, forms):
    """Whether thing is a tuple of whole numbers of these forms."""
    if not isinstance(thing, tuple) or len(thing) != len(forms):
        return False
    return all([is_whole(number) and number in form for number, form in zip(thing, forms)])


def are_olds(thing, forms):
    """Whether thing is a rising tuple of what has these forms."""
    return isinstance(thing, tuple) and all([has_forms(one, forms) for one in thing]) and is_rising(thing)


def is_standing(thing, many):
    """Whether thing is a standing of a rule with so many inputs."""
    return has_forms(thing, [(0, 1, 2)] * many)


def are_letters(thing, many):
    """Whether thing is a tuple of one letter or more, each of so many bits."""
    if not isinstance(thing, tuple) or len(thing) == 0:
        return False
    return all([has_forms(letter, [(0, 1)] * many) for letter in thing])
