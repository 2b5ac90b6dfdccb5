"""What all walks of a rule, by whatever standing, have in common."""

from poisonrules.ends import is_told
from poisonrules.lanes import LAST_DIGIT, test_things
from poisonrules.olds import Olds
from poisonrules.terms import things_of
from poisonrules.tracks import Track


class Ground:
    """A rule. News are kept by a key: the code of the tests above that of new's state."""

    def __init__(self, rule):
        old_things = things_of(rule.old)
        self.old = Track(old_things)
        leaves = sorted(list(self.old.leaf_weights))
        self.inputs = [name for head, name in leaves if head == "look"]
        self.consts = [leaf for leaf in leaves if leaf[0] == "const"]
        self.new = Track(things_of(rule.new))
        self.tests = Track(test_things(rule))
        self.last_state = (1 << self.new.code_bits) - 1
        # The bits of a key that tell on what comes next.
        self.telling = self.tests.telling << self.new.code_bits | self.new.telling
        # The tests' digits in a key, each with its comparison.
        digits = [at + self.new.code_bits for at in self.tests.digits_of("test")]
        self.compared = list(zip([test[0] for test in rule.cond], digits))
        self.compared_mask = sum([LAST_DIGIT << at for at in digits])
        self.olds = Olds(self.old, len(self.inputs) + len(self.consts))
        # (key, mask of olds) of all pairs at first: of tests all digits are 0, those of nums, too.
        olds = sum([self.olds.unit_of(code) << 1 for code in self.old.first_codes()])
        self.beginnings = [(key, olds) for key in self.new.first_codes()]
        self.test_bases = self.tests.base_lanes(self.consts)
        self.known_holding = {}
        # Without tests nothing is had of them.
        self.known_behind = {} if len(self.compared) > 0 else {0: [0] * len(self.test_bases)}
        self.known_ends = {}

    def tests_hold(self, key):
        """Whether all tests hold, all bits read."""
        told = key & self.compared_mask
        if told not in self.known_holding:
            self.known_holding[told] = all([is_told(comparison, told >> at & LAST_DIGIT)
                                            for comparison, at in self.compared])
        return self.known_holding[told]

    def tests_behind(self, key):
        """What the keys behind have of the tests, for each tuple of the constants' bits, rising."""
        kind = key >> self.new.code_bits & self.tests.telling
        if kind not in self.known_behind:
            fields = self.tests.lanes(kind)
            self.known_behind[kind] = [fields[base] >> 1 << self.new.code_bits for base in self.test_bases]
        return self.known_behind[kind]

    def new_ends(self, keys, bad):
        """How new's states of keys end, and others that were asked by the same inputs that are bad, by their codes."""
        known = self.known_ends.setdefault(bad, {})
        codes = list({key & self.last_state: True for key in keys if key & self.last_state not in known})
        if len(codes) > 0:
            known.update(dict(zip(codes, self.new.ends(codes, bad))))
        return known

    def news_told(self, key):
        """The news of a key."""
        return self.tests.numbers_of(key >> self.new.code_bits) + self.new.numbers_of(key & self.last_state)
