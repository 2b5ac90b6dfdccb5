"""A rule that is walked by one standing, letter by letter: for few letters this is less to do than a Walk."""

from poisonrules.ends import is_told, stands_by_ends
from poisonrules.lanes import DIGIT, TELLING, Stepper, fields_behind, lane_masks, test_things
from poisonrules.rulestandings import NUMBER, POISONED
from poisonrules.serial import first_numbers
from poisonrules.terms import things_of, words_among
from poisonrules.tuples import tuples_of


class LetterWalk:
    """Pairs are handed in and told as they are, with all their numbers."""

    def __init__(self, rule, standing):
        old_things = things_of(rule.old)
        self.old = Stepper(old_things)
        self.new = Stepper(things_of(rule.new))
        self.tests = Stepper(test_things(rule))
        self.comparisons = [test[0] for test in rule.cond]
        self.many_tested = len(self.tests.numbered)
        # The looks and consts whose bits are the first ones of a letter, and the looks whose bit is 0.
        self.leaves = []
        self.poisoned = []
        for name, told in zip(words_among(old_things, "look"), standing):
            if told == NUMBER:
                self.leaves.append(("look", name))
            elif told == POISONED:
                self.poisoned.append(("look", name))
        self.leaves.extend([("const", name) for name in words_among(old_things, "const")])
        # Old's other bits may be any: a lane for each case.
        fixed = self.leaves + self.poisoned
        self.many_free = len([thing for thing in self.old.drawn if thing[0] == "froze" or thing not in fixed])
        self.size = DIGIT * len(self.old.numbered) + 1
        self.masks, self.ones = lane_masks(self.many_free, self.size)
        self.telling = [TELLING[thing[0]] for thing in self.old.numbered]

    def letter_bits(self):
        """How many bits a letter has."""
        fixed = self.leaves + self.poisoned
        return len(self.leaves) + len([thing for thing in self.new.drawn if thing[0] == "froze" or thing not in fixed])

    def first_pairs(self):
        """All pairs at first, as their news rise."""
        return pairs_at_first(self.tests.numbered, self.new.numbered, self.old.numbered)

    def come_by(self, pair, letter):
        """The pair to which pair comes by letter."""
        bits = self.fixed_bits(letter)
        bit, behind = self.news_behind(pair[0], bits, letter)
        return (behind, self.olds_behind(pair[1], bits, bit))

    def fixed_bits(self, letter):
        """The bits by looks and consts of all that have one and the same wherever they stand."""
        bits = {leaf: 0 for leaf in self.poisoned}
        for leaf, bit in zip(self.leaves, letter):
            bits[leaf] = bit
        return bits

    def news_behind(self, news, bits, letter):
        """(new's bit, news behind) by a letter and its fixed bits."""
        many = self.many_tested
        bit, state = self.new.step(drawn_bits(self.new.drawn, bits, letter[len(self.leaves):], 1), news[many:])
        if many == 0:
            return (bit, state)
        _, tested = self.tests.step([bits[const] for const in self.tests.drawn], news[:many])
        return (bit, tested + state)

    def olds_behind(self, olds, bits, new_bit):
        """All olds to which olds come by fixed bits and new's bit."""
        drawn = drawn_bits(self.old.drawn, bits, self.masks, self.ones)
        known = {}
        found = {}
        for mark, *numbers in olds:
            # What tells nothing on what comes next, marks too, makes no other step.
            key = tuple([number & mask for number, mask in zip(numbers, self.telling)])
            if key not in known:
                fields = fields_behind(self.old.last_first, drawn, self.ones, numbers)
                known[key] = [(field & 1, self.old.behind(numbers, field)) for field in self.fields_apart(fields)]
            for bit, behind in known[key]:
                one = (1 if mark == 1 and bit == new_bit else 0, *behind)
                found[one] = True
        return tuple(sorted(found))

    def stands(self, pair):
        """Whether a pair stands."""
        news, olds = pair
        told = [number for thing, number in zip(self.tests.numbered, news) if thing[0] == "test"]
        if not all([is_told(comparison, number) for comparison, number in zip(self.comparisons, told)]):
            return True
        bad = [name for _, name in self.poisoned]
        return stands_by_ends(self.new.last_first, news[self.many_tested:], self.old.last_first, olds, bad)

    def fields_apart(self, fields):
        """The unlike ones of the fields of all lanes."""
        if self.many_free == 0:
            return [fields]
        last = (1 << self.size) - 1
        return list({fields >> at & last: True for at in range(0, self.size << self.many_free, self.size)})


def pairs_at_first(tests, new, old):
    """All pairs at first, as their news rise, by the things of tests, new and old that have numbers."""
    first = tuple([first_numbers(thing)[0] for thing in tests])
    olds = tuple([(1, *state) for state in tuples_of([first_numbers(thing) for thing in old])])
    return [(first + state, olds) for state in tuples_of([first_numbers(thing) for thing in new])]


def drawn_bits(drawn, bits, mixed, ones):
    """The masks of looks, consts and frozes, as written: by bits, in all lanes, else the next one of mixed."""
    left = list(mixed[::-1])
    return [ones * bits[thing] if thing[0] != "froze" and thing in bits else left.pop() for thing in drawn]


class NumberedWalk:
    """A LetterWalk in which news and olds are kept by numbers, and each step is worked out but once."""

    def __init__(self, walk):
        self.walk = walk
        self.things = []
        self.numbers = {}
        self.known_bits = {}
        self.known_news = {}
        self.known_olds = {}

    def number_of(self, thing):
        """The number of news or olds."""
        if thing not in self.numbers:
            self.numbers[thing] = len(self.things)
            self.things.append(thing)
        return self.numbers[thing]

    def short(self, pair):
        """The numbers of a pair."""
        return (self.number_of(pair[0]), self.number_of(pair[1]))

    def told(self, pair):
        """The pair of two numbers."""
        return (self.things[pair[0]], self.things[pair[1]])

    def come_by(self, pair, letter):
        """As that of a LetterWalk, by numbers."""
        news, olds = pair
        if letter not in self.known_bits:
            self.known_bits[letter] = self.walk.fixed_bits(letter)
        key = (news, letter)
        if key not in self.known_news:
            bit, behind = self.walk.news_behind(self.things[news], self.known_bits[letter], letter)
            self.known_news[key] = (bit, self.number_of(behind))
        bit, news_behind = self.known_news[key]
        key = (olds, bit, letter)
        if key not in self.known_olds:
            behind = self.walk.olds_behind(self.things[olds], self.known_bits[letter], bit)
            self.known_olds[key] = self.number_of(behind)
        return (news_behind, self.known_olds[key])
