"""Pairs of what new and old may have come to so far: how they begin, what a letter leads to, which of them stand."""

from poisonrules.ends import is_told, stands_by_ends
from poisonrules.lanes import numbered_things, test_things
from poisonrules.letterwalks import LetterWalk, pairs_at_first
from poisonrules.rulestandings import NUMBER, POISONED, WILD, told_so
from poisonrules.terms import things_of, words_among
from poisonrules.tuples import bit_tuples


def letters_of(rule, standing):
    """All letters of rule by standing, rising."""
    return tuple(bit_tuples(many_bits(rule, standing)))


def many_bits(rule, standing):
    """How many bits a letter of rule has by standing."""
    old_things = things_of(rule.old)
    wild = told_so(words_among(old_things, "look"), standing, WILD)
    mixed = [thing for thing in things_of(rule.new)
             if thing[0] == "froze" or thing[0] == "look" and thing[1] in wild]
    return standing.count(NUMBER) + len(words_among(old_things, "const")) + len(mixed)


def beginnings(rule):
    """All pairs of rule at first, rising."""
    tests = numbered_things(test_things(rule))
    return tuple(pairs_at_first(tests, numbered_things(things_of(rule.new)), numbered_things(things_of(rule.old))))


def come_by(rule, standing, pair, letter):
    """The pair to which pair comes by letter."""
    return LetterWalk(rule, standing).come_by(pair, letter)


def stands(rule, standing, pair):
    """Whether pair stands."""
    news, olds = pair
    at = 0
    for comparison, one, other in rule.cond:
        if not is_told(comparison, news[at]):
            return True
        at += 1 + len(numbered_things(things_of(one) + things_of(other)))
    old_things = things_of(rule.old)
    bad = told_so(words_among(old_things, "look"), standing, POISONED) if POISONED in standing else []
    return stands_by_ends(things_of(rule.new)[::-1], news[at:], old_things[::-1], olds, bad)
