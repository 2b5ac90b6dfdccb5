"""A rule that is walked by one standing, letter by letter: for few letters this is less to do than a Walk."""

from poisonrules.ends import is_told, stands_by_ends
from poisonrules.lanes import DIGIT, TELLING, Stepper, fields_behind, lane_masks, test_things
from poisonrules.rulestandings import NUMBER, POISONED
from poisonrules.serial import first_numbers
from poisonrules.terms import things_of, words_among
from poisonrules.tuples import tuples_of


class LetterWalk:
    """Pairs are handed in and told as they are, with all their numbers."""

    def __init__(self, rule, standing):
        old_things = things_of(rule.old)
        self.old = Stepper(old_things)
        self.new = Stepper(things_of(rule.new))
        self.tests = Stepper(test_things(rule))
        self.comparisons = [test[0] for test in rule.cond]
        self.many_tested = len(self.tests.numbered)
        # The looks and consts whose bits are the first ones of a letter, and the looks whose bit is 0.
        self.leaves = []
        self.poisoned = []
        for name, told in zip(words_among(old_things, "look"), standing):
            if told == NUMBER:
                self.leaves.append(("look", name))
            elif told == POISONED:
                self.poisoned.append(("look", name))
        self.leaves.extend([("const", name) for name in words_among(old_things, "const")])
        # Old's other bits may be any: a lane for each case.
        fixed = self.leaves + self.poisoned
        self.many_free = len([thing for thing in self.old.drawn if thing[0] == "froze" or thing not in fixed])
        self.size = DIGIT * len(self.old.numbered) + 1
        self.masks, self.ones = lane_masks(self.many_free, self.size)
        self.telling = [TELLING[thing[0]] for thing in self.old.numbered]

    def letter_bits(self):
        """How many bits a letter has."""
        fixed = self.leaves + self.poisoned
        return len(self.leaves) + len([thing for thing in self.new.drawn if thing[0] == "froze" or thing not in fixed])

    def first_pairs(self):
        """All pairs at first, as their news rise."""
        return pairs_at_first(self.tests.numbered, self.new.numbered, self.old.numbered)

    def come_by(self, pair, letter):
        """The pair to which pair comes by letter."""
        return self.come(pair, self.prepared(letter))

    def led(self, letters):
        """The pairs to which letters lead from all beginnings; each step is worked out but once."""
        numbers = {}
        row = [numbers.setdefault(letter, len(numbers)) for letter in letters]
        unlike = [self.prepared(letter) for letter in list(numbers)]
        pairs = []
        places = {}
        steps = {}
        ends = []
        for pair in self.first_pairs():
            at = place_among(pair, pairs, places)
            for number in row:
                key = (at, number)
                if key not in steps:
                    steps[key] = place_among(self.come(pairs[at], unlike[number]), pairs, places)
                at = steps[key]
            ends.append(pairs[at])
        return ends

    def prepared(self, letter):
        """(letter, its fixed bits, old's masks by these, what is known of old's steps by these, at first nothing)."""
        bits = self.fixed_bits(letter)
        return (letter, bits, drawn_bits(self.old.drawn, bits, self.masks, self.ones), {})

    def come(self, pair, prepared):
        """The pair to which pair comes by a letter that is prepared."""
        news, olds = pair
        letter, bits, masks, known = prepared
        bit, behind = self.news_behind(news, bits, letter)
        return (behind, self.olds_behind(olds, masks, bit, known))

    def fixed_bits(self, letter):
        """The bits by looks and consts of all that have one and the same wherever they stand."""
        bits = {leaf: 0 for leaf in self.poisoned}
        for leaf, bit in zip(self.leaves, letter):
            bits[leaf] = bit
        return bits

    def news_behind(self, news, bits, letter):
        """(new's bit, news behind) by a letter and its fixed bits."""
        many = self.many_tested
        bit, state = self.new.step(drawn_bits(self.new.drawn, bits, letter[len(self.leaves):], 1), news[many:])
        if many == 0:
            return (bit, state)
        _, tested = self.tests.step([bits[const] for const in self.tests.drawn], news[:many])
        return (bit, tested + state)

    def olds_behind(self, olds, masks, new_bit, known):
        """All olds to which olds come by old's masks and new's bit; known has what came by the same masks."""
        found = {}
        for mark, *numbers in olds:
            # What tells nothing on what comes next, marks too, makes no other step.
            key = tuple([number & mask for number, mask in zip(numbers, self.telling)])
            if key not in known:
                fields = fields_behind(self.old.last_first, masks, self.ones, numbers)
                known[key] = [(field & 1, self.old.behind(numbers, field)) for field in self.fields_apart(fields)]
            for bit, behind in known[key]:
                one = (1 if mark == 1 and bit == new_bit else 0, *behind)
                found[one] = True
        return tuple(sorted(found))

    def stands(self, pair):
        """Whether a pair stands."""
        news, olds = pair
        told = [number for thing, number in zip(self.tests.numbered, news) if thing[0] == "test"]
        if not all([is_told(comparison, number) for comparison, number in zip(self.comparisons, told)]):
            return True
        bad = [name for _, name in self.poisoned]
        return stands_by_ends(self.new.last_first, news[self.many_tested:], self.old.last_first, olds, bad)

    def fields_apart(self, fields):
        """The unlike ones of the fields of all lanes."""
        if self.many_free == 0:
            return [fields]
        last = (1 << self.size) - 1
        return list({fields >> at & last: True for at in range(0, self.size << self.many_free, self.size)})


def pairs_at_first(tests, new, old):
    """All pairs at first, as their news rise, by the things of tests, new and old that have numbers."""
    first = tuple([first_numbers(thing)[0] for thing in tests])
    olds = tuple([(1, *state) for state in tuples_of([first_numbers(thing) for thing in old])])
    return [(first + state, olds) for state in tuples_of([first_numbers(thing) for thing in new])]


def drawn_bits(drawn, bits, mixed, ones):
    """The masks of looks, consts and frozes, as written: by bits, in all lanes, else the next one of mixed."""
    left = list(mixed[::-1])
    return [ones * bits[thing] if thing[0] != "froze" and thing in bits else left.pop() for thing in drawn]


def place_among(pair, pairs, places):
    """The place of a pair among pairs, by places of them; it is put there where it is new."""
    if pair not in places:
        places[pair] = len(pairs)
        pairs.append(pair)
    return places[pair]
