"""Rules of their texts."""

from poisonrules.errors import NoRule, NoText
from poisonrules.rules import Rule
from poisonrules.termtexts import term_of, terms_of


def read_rule(text):
    """The Rule whose text is text; NoText of anything else."""
    if not isinstance(text, str):
        raise NoText("what is no text writes no rule")
    words = text.split(" ")
    # None of the words at which is cut here is a name, so none stands within a term.
    sides = cut_at(words[2:], "to")
    if words[0] != "rule" or len(sides) != 2:
        raise NoText("a rule has a name, an old term and a new one")
    behind = cut_at(sides[1], "if")
    if len(behind) > 2:
        raise NoText("a rule has its tests but once")
    tests = [read_test(row) for row in cut_at(behind[1], ",")] if len(behind) == 2 else []
    try:
        return Rule(words[1], term_of(sides[0]), term_of(behind[0]), cond=tuple(tests))
    except NoRule:
        raise NoText("the words make no rule") from None


def cut_at(words, mark):
    """The rows of words ahead of, between and behind all that are mark."""
    rows = [[]]
    for word in words:
        if word == mark:
            rows.append([])
        else:
            rows[-1].append(word)
    return rows


def read_test(words):
    """A comparison and the two terms behind it; whether they make a test Rule tells."""
    terms = terms_of(words[1:])
    if len(terms) != 2:
        raise NoText("a test compares two terms")
    return (words[0], *terms)
