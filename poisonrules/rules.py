"""Rules."""

from poisonrules.errors import NoRule
from poisonrules.terms import LEAVES, consts_of, inputs_of, is_name, is_term, is_test, things_of
from poisonrules.termtexts import show_term


class Rule:
    """That old may become new where the tests of cond hold."""

    def __init__(self, name, old, new, *, cond=()):
        if not makes_rule(name, old, new, cond):
            raise NoRule("these make no rule")
        self.name = name
        self.old = old
        self.new = new
        self.cond = cond

    def __len__(self):
        return len(things_of(self.old) + things_of(self.new))

    def __eq__(self, other):
        return (isinstance(other, Rule) and self.name == other.name and self.old == other.old
                and self.new == other.new and self.cond == other.cond)

    def __str__(self):
        return " ".join(words_of(self.name, self.old, self.new, self.cond))

    def __repr__(self):
        return f"Rule({self})"


def makes_rule(name, old, new, cond):
    """Whether these make a rule."""
    if not (is_name(name) and is_term(old) and is_term(new) and are_tests(cond)):
        return False
    if old[0] in LEAVES:
        return False
    asked = list(consts_of(new))
    for test in cond:
        asked.extend(consts_of(test[1]) + consts_of(test[2]))
    return are_among(inputs_of(new), inputs_of(old)) and are_among(asked, consts_of(old))


def are_tests(thing):
    """Whether thing is a tuple of tests."""
    return isinstance(thing, tuple) and all([is_test(one) for one in thing])


def are_among(names, others):
    """Whether each of names is one of others."""
    return all([name in others for name in names])


def words_of(name, old, new, cond):
    """The text of a rule, in texts that have one blank between."""
    words = ["rule", name, show_term(old), "to", show_term(new)]
    for at, (comparison, one, other) in enumerate(cond):
        words.extend(["if" if at == 0 else ",", comparison, show_term(one), show_term(other)])
    return words
