"""Of anything, whether it is a standing, letters, or pairs of a rule."""

from poisonrules.tuples import is_rising
from poisonrules.wholes import are_wholes


class Reader:
    """Pairs of anything, read short, as walks keep them: what is no whole number is refused ahead of all else."""

    def __init__(self, ground):
        self.ground = ground
        self.news_keys = {}
        self.old_masks = {}

    def learn(self, pairs):
        """Have all news and olds of (news, olds) known; whether these all are such by themselves."""
        if not all([isinstance(news, tuple) and isinstance(olds, tuple) for news, olds in pairs]):
            return False
        all_news = [news for news, _ in pairs]
        all_olds = [old for _, olds in pairs for old in olds]
        if not all([isinstance(old, tuple) for old in all_olds]):
            return False
        # What is known is known of whole numbers alone, as truths would be taken for them.
        if not are_wholes([number for one in all_news + all_olds for number in one]):
            return False
        ground = self.ground
        parts = ground.tests.parts(ground.new.code_bits) + ground.new.parts(0)
        for news in list({one: True for one in all_news}):
            self.news_keys[news] = joined_parts(news, parts)
        parts = [{0: 0, 1: 1}] + ground.old.parts(1)
        for old in list({one: True for one in all_olds}):
            marked = joined_parts(old, parts)
            if marked is None:
                return False
            self.old_masks[old] = ground.olds.unit_of(marked >> 1) << (marked & 1)
        return None not in list(self.news_keys.values())

    def short(self, pairs):
        """Pairs whose news and olds are known, short, or None where olds of one do not rise."""
        if not all([len(olds) < 2 or is_rising(olds) for _, olds in pairs]):
            return None
        masks = self.old_masks
        return [(self.news_keys[news], masks[olds[0]] if len(olds) == 1 else sum([masks[one] for one in olds]))
                for news, olds in pairs]


def joined_parts(numbers, parts):
    """All that is had of numbers together, or None where they are not as many as parts, or one is none of its own."""
    if len(numbers) != len(parts):
        return None
    found = [part.get(number) for number, part in zip(numbers, parts)]
    return None if None in found else sum(found)


def has_forms(numbers, forms):
    """Whether there are as many numbers as forms, each of its form."""
    return len(numbers) == len(forms) and all([number in form for number, form in zip(numbers, forms)])


def is_standing(thing, many):
    """Whether thing is a standing of a rule with so many inputs."""
    return isinstance(thing, tuple) and are_wholes(thing) and has_forms(thing, [(0, 1, 2)] * many)


def are_letters(thing, many):
    """Whether thing is a tuple of one letter or more, each of so many bits."""
    if not isinstance(thing, tuple) or len(thing) == 0 or not all([isinstance(letter, tuple) for letter in thing]):
        return False
    bits = [bit for letter in thing for bit in letter]
    if not all([bit in (0, 1) and bit is not True and bit is not False for bit in bits]):
        return False
    # Of letters that are the same one look is enough.
    return all([len(letter) == many for letter in list({letter: True for letter in thing})])
