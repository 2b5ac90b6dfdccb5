"""The tests of a rule, walked bit by bit along with its terms."""

from poisonrules.serial import after_by, compared_behind, is_told, plan_of, starts
from poisonrules.terms import consts_of, things_of


class WalkedTests:
    """A rule's tests. Their numbers are, test by test, 2r + d as of a choice and the states of its two terms."""

    def __init__(self, rule):
        names = consts_of(rule.old)
        self.comparisons = [test[0] for test in rule.cond]
        self.pairs = [[WalkedTerm(side, names) for side in test[1:]] for test in rule.cond]
        self.known = {}

    def first(self):
        """The numbers at first."""
        found = []
        for one, other in self.pairs:
            found.extend([0, *one.start, *other.start])
        return tuple(found)

    def behind(self, numbers, bits):
        """The numbers behind a bit of each of the rule's constants."""
        key = (numbers, bits)
        if key not in self.known:
            found = []
            left = list(numbers)
            for one, other in self.pairs:
                compared, *left = left
                first_bit, first_state, left = one.behind(left, bits)
                second_bit, second_state, left = other.behind(left, bits)
                found.extend([compared_behind(compared, first_bit, second_bit), *first_state, *second_state])
            self.known[key] = tuple(found)
        return self.known[key]

    def hold(self, numbers):
        """Whether all tests hold, all bits read."""
        left = list(numbers)
        for comparison, (one, other) in zip(self.comparisons, self.pairs):
            if not is_told(comparison, left[0]):
                return False
            left = left[1 + len(one.start) + len(other.start):]
        return True


class WalkedTerm:
    """A term of a test."""

    def __init__(self, term, names):
        self.plan = plan_of(term)
        self.places = [names.index(thing[1]) for thing in things_of(term) if thing[0] == "const"]
        self.start = starts(term)[0]

    def behind(self, numbers, bits):
        """(bit, state behind, the numbers that are left) of numbers that begin with a state of it."""
        many = len(self.start)
        bit, state = after_by(self.plan, numbers[:many], [bits[place] for place in self.places])
        return (bit, state, numbers[many:])
