"""Checks of papers for a rule and against it, whoever wrote them."""

from poisonrules.grounds import Ground
from poisonrules.letterwalks import LetterWalk
from poisonrules.olds import has_within
from poisonrules.pairforms import Reader, are_kinds, are_letters, is_standing
from poisonrules.rulestandings import standings_of
from poisonrules.terms import inputs_of
from poisonrules.tuples import is_rising
from poisonrules.walks import Walk


def paper_holds(rule, thing):
    """Whether thing is a paper of rule, so that it is right at every width."""
    standings = standings_of(rule)
    if not isinstance(thing, tuple) or len(thing) != len(standings):
        return False
    # From each beginning some letter leads on, so no set is empty.
    if not all([isinstance(kept, tuple) and len(kept) > 0 for kept in thing]):
        return False
    pairs = [pair for kept in thing for pair in kept]
    if not all([isinstance(pair, tuple) and len(pair) == 2 for pair in pairs]):
        return False
    # All that is of other kinds is refused ahead of all walking.
    if not are_kinds(pairs):
        return False
    ground = Ground(rule)
    reader = Reader(ground)
    for standing, kept in zip(standings, thing):
        short = reader.short(kept)
        if short is None or not is_rising(kept) or not is_kept(Walk(ground, standing), short):
            return False
    return True


def is_kept(walk, pairs):
    """Whether short pairs are a kept set."""
    kept = {}
    for key, olds in pairs:
        kept.setdefault(key, []).append(olds)
    return all_lead_on(walk, walk.ground.beginnings + pairs, kept) and False not in walk.stand(pairs)


def all_lead_on(walk, pairs, kept):
    """Whether each letter leads from each of short pairs to news of which enough is kept."""
    met = {}
    telling = walk.ground.telling
    # What leads to the same by the same letters needs but one look.
    for key, olds in list({(key & telling, olds): True for key, olds in pairs}):
        tested, come, marks = walk.ground.tests_behind(key), walk.old_steps.behind(olds), walk.olds.marks
        for at, consts, bit, code, _ in walk.moves(key):
            behind = (tested[consts] | code, come[bit] >> at & marks)
            if behind not in met:
                if not has_within(kept.get(behind[0], []), behind[1]):
                    return False
                met[behind] = True
    return True


def against_holds(rule, thing):
    """Whether thing is a paper against rule, so that it is wrong at as many bits as it has letters."""
    if not isinstance(thing, tuple) or len(thing) != 2 or not is_standing(thing[0], len(inputs_of(rule.old))):
        return False
    standing, letters = thing
    walk = LetterWalk(rule, standing)
    if not are_letters(letters, walk.letter_bits()):
        return False
    return not all([walk.stands(pair) for pair in walk.led(letters)])
