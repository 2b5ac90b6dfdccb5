"""All runs of a program at once.

A mask has a one for each of many runs, at its place; what something may come to is a dict of masks by worths. Where a
run is in several of these, each look at it may come to each of them. So it is with inputs that are ANY, and with lines
that are looked at but once; where a line is looked at again, runs are told apart by what it comes to.
"""

from poisonrules.kinds import BAD, FAULT
from poisonrules.masks import repeated
from poisonrules.operands import times_looked
from poisonrules.reckoning import holds, reckoned
from poisonrules.terms import FLAGGED, parts_of


class Runs:
    """The runs of a program by what looks at its inputs may come to, in so many runs at first."""

    def __init__(self, program, looks, many):
        self.width = program.width
        self.outs = program.outs
        self.looks = looks
        self.many_first = many
        self.many = many
        self.lines = []
        self.faults = 0
        # Runs in which each line has come to a worth, but where it always faults.
        self.sound = (1 << many) - 1
        self.known = {}
        for number, times in enumerate(times_looked(program)):
            self.go_on(program.lines[number], times > 1)

    def go_on(self, line, is_looked_at_again):
        """Reckon the next line."""
        worths = self.line_worths(line)
        if is_looked_at_again:
            layers = layers_of(worths)
            if len(layers) > 1:
                self.widen(len(layers))
                worths = joined_layers(layers, self.many // len(layers))
        self.lines.append(worths)
        self.sound &= union_of(worths)

    def widen(self, times):
        """Have so many runs in the place of each one."""
        ahead = self.many
        self.looks = {name: widened(worths, ahead, times) for name, worths in self.looks.items()}
        self.lines = [widened(worths, ahead, times) for worths in self.lines]
        self.faults = repeated(self.faults, ahead, times)
        self.sound = repeated(self.sound, ahead, times)
        self.many = ahead * times

    def worths_of(self, operand):
        """What an operand may come to."""
        head, word = operand
        if head == "line":
            return self.lines[word]
        if head == "look":
            return self.looks[word]
        return {word & ((1 << self.width) - 1): (1 << self.many) - 1}

    def line_worths(self, line):
        """What a line may come to; that it faults is kept."""
        parts = [self.worths_of(operand) for operand in parts_of(line)]
        if line[0] == "copy":
            return parts[0]
        if line[0] == "froze":
            return self.frozen_worths(parts[0])
        if line[0] == "choice":
            return self.chosen_worths(line[1][0], parts)
        found = self.reckoned_worths(line, parts)
        self.faults |= found.pop(FAULT, 0)
        return found

    def frozen_worths(self, worths):
        """What a froze may come to."""
        if BAD not in worths:
            return worths
        return {number: worths.get(number, 0) | worths[BAD] for number in range(1 << self.width)}

    def chosen_worths(self, comparison, parts):
        """What a choice may come to."""
        ones, others, held_worths, unheld_worths = parts
        held = unheld = bad = 0
        for one, mask in ones.items():
            for other, more in others.items():
                if BAD in (one, other):
                    bad |= mask & more
                elif holds(comparison, one, other, self.width):
                    held |= mask & more
                else:
                    unheld |= mask & more
        found = {BAD: bad}
        for worth, mask in held_worths.items():
            found[worth] = found.get(worth, 0) | mask & held
        for worth, mask in unheld_worths.items():
            found[worth] = found.get(worth, 0) | mask & unheld
        return {worth: mask for worth, mask in found.items() if mask != 0}

    def reckoned_worths(self, line, parts):
        """What all other lines may come to, FAULT too."""
        known = self.known.setdefault(line[:2] if line[0] in FLAGGED else line[:1], {})
        found = {}
        others = parts[1] if len(parts) == 2 else {None: -1}
        for one, mask in parts[0].items():
            for other, more in others.items():
                both = mask & more
                if both != 0:
                    key = (one, other)
                    if key not in known:
                        known[key] = reckoned(line, [one] if other is None else [one, other], self.width)
                    worth = known[key]
                    found[worth] = found.get(worth, 0) | both
        return found

    def told(self):
        """All outcomes, each with a mask of the runs that there were at first."""
        found = {(): self.sound}
        for out in self.outs:
            worths = self.worths_of(out)
            found = {(*ahead, worth): both for ahead, mask in found.items()
                     for worth, more in worths.items() if (both := mask & more) != 0}
        told = {outcome: self.folded(mask) for outcome, mask in found.items() if mask != 0}
        faults = self.faults_told()
        if faults != 0:
            told[FAULT,] = faults
        return told

    def faults_told(self):
        """The runs, of those that there were at first, that may fault."""
        return self.folded(self.faults)

    def folded(self, mask):
        """The runs, of those that there were at first, of which mask has any."""
        times = self.many // self.many_first
        while times > 1:
            times = (times + 1) // 2
            size = times * self.many_first
            mask = mask >> size | mask & ((1 << size) - 1)
        return mask


def widened(worths, size, times):
    """Masks of so many runs, where there are so many in the place of each one."""
    return {worth: repeated(mask, size, times) for worth, mask in worths.items()}


def union_of(worths):
    """The runs in which something comes to any worth."""
    found = 0
    for mask in worths.values():
        found |= mask
    return found


def layers_of(worths):
    """Dicts as worths, in each of which a run has but one worth; the first has one of each run that has any."""
    layers = [{}]
    taken = [0]
    for worth, mask in worths.items():
        at = 0
        while mask != 0:
            if at == len(layers):
                layers.append({})
                taken.append(0)
            free = mask & ~taken[at]
            if free != 0:
                layers[at][worth] = free
                taken[at] |= free
                mask &= ~free
            at += 1
    return layers


def joined_layers(layers, size):
    """Layers of so many runs each as one dict, one behind the other."""
    found = {}
    for at, layer in enumerate(layers):
        for worth, mask in layer.items():
            found[worth] = found.get(worth, 0) | mask << at * size
    return found
