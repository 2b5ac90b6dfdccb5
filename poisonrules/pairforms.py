"""Of anything, whether it is a standing, letters, or pairs of a rule."""

from poisonrules.tuples import is_rising
from poisonrules.wholes import are_wholes


def are_kinds(pairs):
    """Whether all of some (news, olds) are tuples, and tuples of tuples, of whole numbers."""
    if not all([isinstance(news, tuple) and isinstance(olds, tuple) for news, olds in pairs]):
        return False
    rows = [news for news, _ in pairs]
    rows.extend([old for _, olds in pairs for old in olds])
    return all([isinstance(row, tuple) for row in rows]) and are_wholes([number for row in rows for number in row])


class Reader:
    """Reads news and olds of whole numbers, which must not be truths, as walks keep them."""

    def __init__(self, ground):
        self.olds = ground.olds
        # For each number of news, and of one of olds, what a key, or twice a code and the mark, have of it.
        self.news_parts = ground.tests.parts(ground.new.code_bits) + ground.new.parts(0)
        self.old_parts = [{0: 0, 1: 1}] + ground.old.parts(1)
        self.known_keys = {}
        self.known_masks = {}
        self.known_olds = {}

    def short(self, pairs):
        """Some (news, olds), short, or None where one of them is no pair."""
        found = []
        for news, olds in pairs:
            key = self.known_keys.get(news)
            if key is None:
                key = joined_parts(news, self.news_parts)
                self.known_keys[news] = key
            mask = self.known_olds.get(olds)
            if mask is None:
                mask = self.mask_of(olds)
                self.known_olds[olds] = mask
            if key is None or mask is None:
                return None
            found.append((key, mask))
        return found

    def mask_of(self, olds):
        """The mask of olds, or None where they are none."""
        if not is_rising(olds):
            return None
        mask = 0
        for old in olds:
            one = self.known_masks.get(old)
            if one is None:
                marked = joined_parts(old, self.old_parts)
                if marked is None:
                    return None
                one = self.olds.unit_of(marked >> 1) << (marked & 1)
                self.known_masks[old] = one
            mask |= one
        return mask


def joined_parts(numbers, parts):
    """All that is had of numbers together, or None where they are not as many as parts, or one is none of its own."""
    if len(numbers) != len(parts):
        return None
    found = [part.get(number) for number, part in zip(numbers, parts)]
    return None if None in found else sum(found)


def has_forms(numbers, forms):
    """Whether there are as many numbers as forms, each of its form."""
    return len(numbers) == len(forms) and all([number in form for number, form in zip(numbers, forms)])


def is_standing(thing, many):
    """Whether thing is a standing of a rule with so many inputs."""
    return isinstance(thing, tuple) and are_wholes(thing) and has_forms(thing, [(0, 1, 2)] * many)


def are_letters(thing, many):
    """Whether thing is a tuple of one letter or more, each of so many bits."""
    if not isinstance(thing, tuple) or len(thing) == 0 or not all([isinstance(letter, tuple) for letter in thing]):
        return False
    bits = [bit for letter in thing for bit in letter]
    if not all([bit in (0, 1) and bit is not True and bit is not False for bit in bits]):
        return False
    # Of letters that are the same one look is enough.
    return all([len(letter) == many for letter in list({letter: True for letter in thing})])
