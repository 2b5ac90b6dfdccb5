"""Checks of papers for a rule and against it, whoever wrote them."""

from poisonrules.pairforms import are_letters, are_olds, has_forms, is_standing, news_forms, olds_forms
from poisonrules.terms import inputs_of
from poisonrules.tuples import is_rising
from poisonrules.walks import Walk, standings_of


def paper_holds(rule, thing):
    """Whether thing is a paper of rule, so that it is right at every width."""
    standings = standings_of(rule)
    if not isinstance(thing, tuple) or len(thing) != len(standings):
        return False
    for standing, kept in zip(standings, thing):
        if not are_pairs(kept, rule) or not is_kept(Walk(rule, standing), kept):
            return False
    return True


def are_pairs(thing, rule):
    """Whether thing is a rising tuple of pairs of rule."""
    if not isinstance(thing, tuple):
        return False
    news = news_forms(rule)
    olds = olds_forms(rule)
    return all([is_pair(one, news, olds) for one in thing]) and is_rising(thing)


def is_pair(thing, news, olds):
    """Whether thing is a pair whose numbers have these forms."""
    return isinstance(thing, tuple) and len(thing) == 2 and has_forms(thing[0], news) and are_olds(thing[1], olds)


def is_kept(walk, kept):
    """Whether pairs that rise are a kept set."""
    pairs = [walk.short(pair) for pair in kept]
    if not all([walk.stands(pair) for pair in pairs]):
        return False
    by_news = {}
    for number, olds in pairs:
        by_news.setdefault(number, []).append(olds)
    met = {pair: True for pair in pairs}
    for pair in walk.beginnings() + pairs:
        for _, behind in walk.ways(pair):
            if behind not in met:
                number, olds = behind
                if not walk.olds.has_within(by_news.get(number, []), olds):
                    return False
                met[behind] = True
    return True


def against_holds(rule, thing):
    """Whether thing is a paper against rule, so that it is wrong at as many bits as it has letters."""
    if not isinstance(thing, tuple) or len(thing) != 2 or not is_standing(thing[0], len(inputs_of(rule.old))):
        return False
    standing, letters = thing
    walk = Walk(rule, standing)
    if not are_letters(letters, walk.many_bits()):
        return False
    reached = walk.beginnings()
    for letter in letters:
        reached = list({walk.by_letter(pair, letter): True for pair in reached})
    return not all([walk.stands(pair) for pair in reached])
