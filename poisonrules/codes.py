"""All that a thing may come to as one whole number, for many rows of worths at once; what is told is reckoning's.

A code is a number where a thing comes to this alone, else, below 0, a mask: a one for each number, at its place, then
one for BAD, then one for FAULT. So most rows need no masks, and a code with FAULT is below all that have none.
"""

from poisonrules.masks import places_in

# Of what is compared: whether it may be as compared, may be not so, may be BAD, may be FAULT.
HELD = 1
UNHELD = 2
COMPARED_BAD = 4
COMPARED_FAULT = 8

ONE_PART = ("not", "froze", "twice")
DIVIDING = ("quot", "rest")
# By these all numbers at one side and any at the other lead to all numbers.
SPREADING = (("sum", ""), ("less", ""), ("xor", ""))


def summed(codes, head, flags, ones, others):
    """The column of a sum, or of a twice, whose parts are one and the same."""
    last, bad = codes.last, codes.bad
    if flags == "":
        return [one + other & last if one | other >= 0 else codes.rare(head, flags, one, other)
                for one, other in zip(ones, others)]
    if flags == "u":
        return [(one + other if one + other <= last else bad) if one | other >= 0
                else codes.rare(head, flags, one, other) for one, other in zip(ones, others)]
    # With its first bit turned a number is as much above the least one as it is where some count as below 0.
    half, most = codes.half, last if flags == "us" else 2 * last
    return [(one + other & last if half <= (one ^ half) + (other ^ half) < 3 * half and one + other <= most else bad)
            if one | other >= 0 else codes.rare(head, flags, one, other) for one, other in zip(ones, others)]


def lessened(codes, head, flags, ones, others):
    """The column of a less."""
    last, bad = codes.last, codes.bad
    if flags == "":
        return [one - other & last if one | other >= 0 else codes.rare(head, flags, one, other)
                for one, other in zip(ones, others)]
    if flags == "u":
        return [(one - other if one >= other else bad) if one | other >= 0
                else codes.rare(head, flags, one, other) for one, other in zip(ones, others)]
    half, least = codes.half, 0 if flags == "us" else -last
    return [(one - other & last if -half <= (one ^ half) - (other ^ half) < half and one - other >= least else bad)
            if one | other >= 0 else codes.rare(head, flags, one, other) for one, other in zip(ones, others)]


def bitwise_column(codes, head, word, ones, others):
    """The column of an and, or, xor."""
    if head == "and":
        return [one & other if one | other >= 0 else codes.rare(head, word, one, other)
                for one, other in zip(ones, others)]
    if head == "or":
        return [one | other if one | other >= 0 else codes.rare(head, word, one, other)
                for one, other in zip(ones, others)]
    return [one ^ other if one | other >= 0 else codes.rare(head, word, one, other)
            for one, other in zip(ones, others)]


def alone_column(codes, head, word, ones, _):
    """The column of a not or a froze."""
    if head == "not":
        return [codes.last - one if one >= 0 else codes.rare(head, word, one, one) for one in ones]
    return [one if one >= 0 else codes.rare(head, word, one, one) for one in ones]


def multiplied(codes, head, word, ones, others):
    """The column of a times, quot, rest."""
    last = codes.last
    if head == "times":
        return [one * other & last if one | other >= 0 else codes.rare(head, word, one, other)
                for one, other in zip(ones, others)]
    if head == "quot":
        return [one // other if one >= 0 and other > 0 else codes.rare(head, word, one, other)
                for one, other in zip(ones, others)]
    return [one % other if one >= 0 and other > 0 else codes.rare(head, word, one, other)
            for one, other in zip(ones, others)]


def moved_column(codes, head, word, ones, others):
    """The column of a left or right."""
    width, last, bad = codes.width, codes.last, codes.bad
    if head == "left":
        return [(one << other & last if other < width else bad) if one | other >= 0
                else codes.rare(head, word, one, other) for one, other in zip(ones, others)]
    return [(one >> other if other < width else bad) if one | other >= 0
            else codes.rare(head, word, one, other) for one, other in zip(ones, others)]


def compared_column(codes, head, comparison, ones, others):
    """What may be of what a choice or test compares, not codes but masks as above."""
    if comparison == "same":
        return [(HELD if one == other else UNHELD) if one | other >= 0 else codes.rare(head, comparison, one, other)
                for one, other in zip(ones, others)]
    if comparison == "below":
        return [(HELD if one < other else UNHELD) if one | other >= 0 else codes.rare(head, comparison, one, other)
                for one, other in zip(ones, others)]
    half = codes.half
    return [(HELD if one ^ half < other ^ half else UNHELD) if one | other >= 0
            else codes.rare(head, comparison, one, other) for one, other in zip(ones, others)]


COLUMNS = {
    "sum": summed, "twice": summed, "less": lessened,
    "and": bitwise_column, "or": bitwise_column, "xor": bitwise_column, "not": alone_column, "froze": alone_column,
    "times": multiplied, "quot": multiplied, "rest": multiplied, "left": moved_column, "right": moved_column,
    "choice": compared_column,
}


class Codes:
    """The codes of a width; what sets of parts lead to is worked out when it first comes."""

    def __init__(self, width):
        self.width = width
        self.last = (1 << width) - 1
        self.half = 1 << (width - 1)
        self.bad = -1 << (1 << width)
        self.every = self.bad + 1
        self.fault = 2 * self.bad
        self.known = {}
        # Whether anything may come to FAULT.
        self.faults = False

    def mask(self, code):
        """The mask of a code."""
        return 1 << code if code >= 0 else -code

    def code(self, mask):
        """The code of a mask."""
        return -mask if mask & (mask - 1) != 0 or mask >= -self.bad else mask.bit_length() - 1

    def column(self, head, word, ones, others):
        """The column of a thing by those of its parts; word is its flags, or how it compares."""
        if head in DIVIDING:
            self.faults = True
        action = COLUMNS[head]
        return action(self, head, word, ones, others)

    def chosen(self, compared, ones, others):
        """The column of a choice by what is compared and the columns of its sides."""
        if self.faults:
            return [self.mixed(told, one, other) for told, one, other in zip(compared, ones, others)]
        return [one if told == HELD else other if told == UNHELD else self.mixed(told, one, other)
                for told, one, other in zip(compared, ones, others)]

    def mixed(self, compared, one, other):
        """The code of a choice by what is compared and the codes of its sides."""
        if compared == COMPARED_BAD and not self.faults:
            return self.bad
        key = (compared, one, other)
        if key not in self.known:
            self.known[key] = self.code(self.mixed_mask(compared, self.mask(one), self.mask(other)))
        return self.known[key]

    def mixed_mask(self, compared, held, unheld):
        """The mask of a choice by what is compared and the masks of its sides."""
        fault = -self.fault
        found = fault if compared >= COMPARED_FAULT or held >= fault or unheld >= fault else 0
        sound = [compared & (COMPARED_FAULT - 1), held & (fault - 1), unheld & (fault - 1)]
        # As in mask_by, a part that is FAULT alone leaves nothing else.
        if 0 not in sound:
            found |= sound[1] if compared & HELD else 0
            found |= sound[2] if compared & UNHELD else 0
            found |= -self.bad if compared & COMPARED_BAD else 0
        return found

    def rare(self, head, word, one, other):
        """The code of a thing where a part comes to more than a number, or its second to 0 by a quot or rest."""
        if one == self.bad or other == self.bad:
            # What is BAD makes nearly all BAD, whatever else there is.
            if one > self.fault and other > self.fault and head != "froze" and head not in DIVIDING:
                return COMPARED_BAD if head == "choice" else self.bad
        key = (head, word, one, other)
        if key not in self.known:
            mask = self.mask_by(head, word, one, other)
            self.known[key] = mask if head == "choice" else self.code(mask)
        return self.known[key]

    def mask_by(self, head, word, one, other):
        """The mask of a thing, or of what a choice compares, by the codes of its parts."""
        bad, fault = (COMPARED_BAD, COMPARED_FAULT) if head == "choice" else (-self.bad, -self.fault)
        masks = [self.mask(one)] if head in ONE_PART else [self.mask(one), self.mask(other)]
        found = fault if max(masks) >= -self.fault else 0
        sound = [mask & (-self.fault - 1) for mask in masks]
        # A part that can come to nothing but FAULT leaves nothing else for the whole.
        if 0 in sound:
            return found
        numbers = [mask & -self.every for mask in sound]
        if head == "froze":
            return found | (-self.every if sound[0] >= -self.bad else sound[0])
        if head in DIVIDING:
            # By 0 and by BAD it is FAULT, and so it is BAD but where there are other numbers.
            found |= fault if sound[1] & (1 - self.bad) != 0 else 0
            numbers[1] &= -2
            found |= bad if sound[0] >= -self.bad and numbers[1] != 0 else 0
        elif max(sound) >= -self.bad:
            found |= bad
        if 0 in numbers:
            return found
        if (head, word) in SPREADING and -self.every in numbers:
            return found | -self.every
        return found | self.mask_by_numbers(head, word, numbers)

    def mask_by_numbers(self, head, word, masks):
        """As mask_by, by the masks of parts that are numbers."""
        ones = places_in(masks[0])
        others = ones
        if len(masks) == 2:
            others = places_in(masks[1]) * len(ones)
            ones = [one for one in ones for _ in range(len(others) // len(ones))]
        found = 0
        for told in list({told: True for told in self.column(head, word, ones, others)}):
            found |= told if head == "choice" else self.mask(told)
        return found
