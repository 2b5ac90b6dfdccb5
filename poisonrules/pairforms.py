"""Of anything, whether it is a standing, letters, or pairs of a rule."""

from poisonrules.tuples import is_rising
from poisonrules.wholes import are_wholes


def pairs_read(ground, pairs):
    """All (news, olds) of pairs of anything, short, as walks keep them, or None where one of them is no pair."""
    if not all([isinstance(news, tuple) and isinstance(olds, tuple) for news, olds in pairs]):
        return None
    all_news = [news for news, _ in pairs]
    all_olds = [old for _, olds in pairs for old in olds]
    if not all([isinstance(old, tuple) for old in all_olds]):
        return None
    # What is no whole number is refused ahead of what takes truths for numbers.
    if not are_wholes([number for one in all_news + all_olds for number in one]):
        return None
    parts = ground.tests.parts(ground.new.code_bits) + ground.new.parts(0)
    keys = {news: joined_parts(news, parts) for news in list({news: True for news in all_news})}
    parts = [{0: 0, 1: 1}] + ground.old.parts(1)
    masks = {}
    for old in list({old: True for old in all_olds}):
        one = joined_parts(old, parts)
        if one is None:
            return None
        masks[old] = ground.olds.unit_of(one >> 1) << (one & 1)
    if None in list(keys.values()) or not all([len(olds) < 2 or is_rising(olds) for _, olds in pairs]):
        return None
    return [(keys[news], sum([masks[old] for old in olds])) for news, olds in pairs]


def joined_parts(numbers, parts):
    """All that is had of numbers together, or None where they are not as many as parts, or one is none of its own."""
    if len(numbers) != len(parts):
        return None
    found = [part.get(number) for number, part in zip(numbers, parts)]
    return None if None in found else sum(found)


def has_forms(numbers, forms):
    """Whether there are as many numbers as forms, each of its form."""
    return len(numbers) == len(forms) and all([number in form for number, form in zip(numbers, forms)])


def is_standing(thing, many):
    """Whether thing is a standing of a rule with so many inputs."""
    return isinstance(thing, tuple) and are_wholes(thing) and has_forms(thing, [(0, 1, 2)] * many)


def are_letters(thing, many):
    """Whether thing is a tuple of one letter or more, each of so many bits."""
    if not isinstance(thing, tuple) or len(thing) == 0:
        return False
    if not all([isinstance(letter, tuple) and len(letter) == many for letter in thing]):
        return False
    bits = [bit for letter in thing for bit in letter]
    return are_wholes(bits) and all([bit in (0, 1) for bit in bits])
