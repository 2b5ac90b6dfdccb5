"""Pairs of what new and old may have come to so far: how they begin, what a letter leads to, which of them stand."""

from poisonrules.serial import starts
from poisonrules.walkedtests import WalkedTests
from poisonrules.walks import Walk


def letters_of(rule, standing):
    """All letters of rule by standing, rising."""
    return tuple(Walk(rule, standing).letters())


def beginnings(rule):
    """All pairs of rule at first, rising."""
    first = WalkedTests(rule).first()
    olds = tuple([(1, *state) for state in starts(rule.old)])
    return tuple([(first + state, olds) for state in starts(rule.new)])


def come_by(rule, standing, pair, letter):
    """The pair to which pair comes by letter."""
    walk = Walk(rule, standing)
    return walk.shown(walk.by_letter(walk.short(pair), letter))


def stands(rule, standing, pair):
    """Whether pair stands."""
    walk = Walk(rule, standing)
    return walk.stands(walk.short(pair))
