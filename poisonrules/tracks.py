"""A term of a rule, or its tests, walked bit by bit: each step is worked out but once, for all bits at once."""

from poisonrules.ends import ends_of
from poisonrules.lanes import DIGIT, DRAWN, LAST_DIGIT, NUMBERED, TELLING, fields_behind, lane_masks
from poisonrules.terms import FLAGGED


class Track:
    """The things of a term, or of tests, as written.

    A state is kept as a code: a digit of four bits for each number, the first one lowest. The digit of a num is the
    place of its number among all that it may have; other digits are the numbers themselves.
    """

    def __init__(self, things):
        self.last_first = things[::-1]
        # For each number of a state its thing's first word, what it may be, and where its digit stands.
        self.heads = []
        self.forms = []
        self.digits = []
        self.code_bits = 0
        self.telling = 0
        for thing in things:
            if thing[0] in NUMBERED:
                self.heads.append(thing[0])
                self.forms.append(form_of(thing))
                self.digits.append(self.code_bits)
                self.telling |= (TELLING[thing[0]] & LAST_DIGIT) << self.code_bits
                self.code_bits += DIGIT
        # The number of the bit of each look, const and froze, the same for consts of a name.
        self.bits = []
        self.many_bits = 0
        # How much greater a lane's number is where all bits of a look or const are 1, those of alike ones together.
        self.leaf_weights = {}
        # So of each look, with its name, and of each froze, with where its digit stands, as written.
        self.mixable = []
        self.lay_bits(things)
        self.masks = []
        self.ones = 0
        self.known_lanes = {}
        self.known_numbers = {}

    def lay_bits(self, things):
        """Have a bit for each look, const and froze."""
        consts = {}
        frozes = self.digits_of("froze")[::-1]
        for thing in things:
            head = thing[0]
            if head == "const" and thing in consts:
                self.bits.append(consts[thing])
            elif head in DRAWN:
                weight = 1 << self.many_bits
                if head == "const":
                    consts[thing] = self.many_bits
                else:
                    self.mixable.append((weight, thing[1], None) if head == "look" else (weight, None, frozes.pop()))
                if head != "froze":
                    self.leaf_weights[thing] = self.leaf_weights.get(thing, 0) + weight
                self.bits.append(self.many_bits)
                self.many_bits += 1

    def digits_of(self, head):
        """Where the digits of all things with this first word stand."""
        return [at for one, at in zip(self.heads, self.digits) if one == head]

    def base_lanes(self, leaves):
        """For all tuples of bits of looks and consts, rising, the lane that has all other bits 0."""
        return sums_of([self.leaf_weights.get(leaf, 0) for leaf in leaves])

    def free_weights(self, wild):
        """(weight, digit) of all that a letter mixes in by inputs that are wild, as written; a look has no digit."""
        return [(weight, digit) for weight, name, digit in self.mixable if name is None or name in wild]

    def first_codes(self):
        """The codes of all states at first, as these rise."""
        codes = [0]
        for head, at in zip(self.heads, self.digits):
            if head == "froze" or head == "choice":
                second = 1 << at if head == "froze" else 6 << at
                codes = [code + more for code in codes for more in (0, second)]
        return codes

    def parts(self, shift):
        """For each number of a state what codes have of it, moved up by shift."""
        return [{number: place << at + shift for place, number in enumerate(form)}
                for form, at in zip(self.forms, self.digits)]

    def numbers_of(self, code):
        """The numbers of a state by its code."""
        if code not in self.known_numbers:
            numbers = [form[code >> at & LAST_DIGIT] for form, at in zip(self.forms, self.digits)]
            self.known_numbers[code] = tuple(numbers)
        return self.known_numbers[code]

    def lanes(self, code):
        """For all lanes, by their numbers, the field behind a code: a code, and below it the bit."""
        key = code & self.telling
        if key not in self.known_lanes:
            size = self.code_bits + 1
            if self.ones == 0:
                masks, self.ones = lane_masks(self.many_bits, size)
                self.masks = [masks[bit] for bit in self.bits]
            fields = fields_behind(self.last_first, self.masks, self.ones, self.numbers_of(key))
            if "num" in self.heads:
                fields |= self.ones * (self.halved(key) << 1)
            last = (1 << size) - 1
            self.known_lanes[key] = [fields >> at & last for at in range(0, size << self.many_bits, size)]
        return self.known_lanes[key]

    def halved(self, code):
        """What nums leave of a code behind it."""
        left = 0
        for form, head, at in zip(self.forms, self.heads, self.digits):
            if head == "num":
                left |= min((code >> at & LAST_DIGIT) + 1, len(form) - 1) << at
        return left

    def ends(self, codes, bad):
        """How the states of codes end, by inputs that are bad."""
        return ends_of(self.last_first, [self.numbers_of(code) for code in codes], bad)


def sums_of(weights):
    """The sums of some of weights, each with or without the first one, the second one, and so on."""
    found = [0]
    for weight in weights:
        found = [one + more for one in found for more in (0, weight)]
    return found


def free_lanes(mixed, code):
    """How much greater all lanes are that mix in other bits, these rising; a froze that is 0 by a code has but 0."""
    if len(mixed) == 0:
        return [0]
    return sums_of([weight for weight, digit in mixed if digit is None or code >> digit & 1 == 1])


def form_of(thing):
    """The numbers that thing may have in a state."""
    head = thing[0]
    if head == "num":
        return halves_of(thing[1])
    if head in FLAGGED:
        return (0, 1, 2, 3)
    if head == "froze":
        return (0, 1)
    return (0, 1, 2, 3, 4, 5) if head == "test" else (0, 1, 2, 3, 4, 5, 6, 7, 8, 9, 10, 11)


def halves_of(number):
    """number, and it halved, rounded down, as often as that tells another one."""
    found = [number]
    while found[-1] not in (0, -1):
        found.append(found[-1] >> 1)
    return tuple(found)
