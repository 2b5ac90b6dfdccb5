"""One term of a rule, walked bit by bit by one standing, each step worked out but once."""

from poisonrules.serial import DRAWN, STATED, after_by, ended, plan_of
from poisonrules.terms import consts_of, inputs_of, things_of
from poisonrules.tuples import tuples_of

NUMBER = 0
WILD = 1
POISONED = 2

# Whence a look, const or froze has its bit: a letter's fixed bits, none (so 0), any bit, or any where the froze is 1.
FROM_FIXED = 0
FROM_NONE = 1
FROM_LOOK = 2
FROM_FROZE = 3
MIXED = (2, 3)


class Side:
    """A rule's old or new by one standing; fixed bits are those that stand first in each letter."""

    def __init__(self, term, rule, standing):
        self.term = term
        self.poisoned = inputs_told(rule, standing, POISONED)
        self.plan = plan_of(term)
        self.sources = sources_of(term, fixed_leaves(rule, standing), inputs_told(rule, standing, WILD))
        self.known = {}

    def many_mixed(self):
        """How many bits a letter of this side mixes in behind the fixed ones."""
        return len([1 for whence, _ in self.sources if whence in MIXED])

    def by_letter(self, state, fixed, mixed):
        """(bit, state behind) by a letter's fixed bits and those that it mixes in."""
        left = list(mixed[::-1])
        bits = [left.pop() if whence in MIXED else bits_from(whence, place, state, fixed)[0]
                for whence, place in self.sources]
        return after_by(self.plan, state, bits)

    def moves(self, state, fixed):
        """(bit, state behind, least mixed bits that lead there) by fixed bits, each bit and state once."""
        key = (state, fixed)
        if key not in self.known:
            found = {}
            rows = [bits_from(whence, place, state, fixed) for whence, place in self.sources]
            for bits in tuples_of(rows):
                found.setdefault(after_by(self.plan, state, bits), bits)
            self.known[key] = [(bit, behind, self.mixed_of(bits)) for (bit, behind), bits in found.items()]
        return self.known[key]

    def mixed_of(self, bits):
        """Of bits for each look, const and froze those that a letter mixes in."""
        return tuple([bit for bit, (whence, _) in zip(bits, self.sources) if whence in MIXED])

    def ending(self, state):
        """How state ends."""
        return ended(self.term, state, bad=self.poisoned)


def inputs_told(rule, standing, told):
    """The inputs of rule that standing tells to be so, rising."""
    return tuple([name for name, one in zip(inputs_of(rule.old), standing) if one == told])


def fixed_leaves(rule, standing):
    """The looks and consts that have one bit each of every letter, in the letters' order."""
    looks = [("look", name) for name in inputs_told(rule, standing, NUMBER)]
    return looks + [("const", name) for name in consts_of(rule.old)]


def sources_of(term, leaves, wild):
    """(whence, place) for each look, const and froze of term, as written; place is among leaves or in a state."""
    sources = []
    stated = 0
    for thing in things_of(term):
        if thing[0] == "froze":
            sources.append((FROM_FROZE, stated))
        elif thing in leaves:
            sources.append((FROM_FIXED, leaves.index(thing)))
        elif thing[0] in DRAWN:
            sources.append((FROM_LOOK if thing[1] in wild else FROM_NONE, 0))
        stated += 1 if thing[0] in STATED else 0
    return sources


def bits_from(whence, place, state, fixed):
    """The bits that a source may have; a froze that is 0 has but 0, as its bit tells nothing then."""
    if whence == FROM_FIXED:
        return (fixed[place],)
    if whence == FROM_LOOK or whence == FROM_FROZE and state[place] == 1:
        return (0, 1)
    return (0,)
