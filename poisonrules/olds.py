"""All that an old term may have come to so far, kept by numbers."""

from poisonrules.masks import places_in


class Olds:
    """The olds of pairs: sets of marked states, tuples of a mark, 1 where all bits so far were new's, and a state.

    The marked states that came up have places in masks; a set has a mask with their ones, and is kept by a number.
    """

    def __init__(self, side):
        self.side = side
        self.marked = []
        self.places = {}
        self.ending_bad = 0
        self.ending_new = 0
        self.masks = []
        self.numbers = {}
        self.known_steps = {}
        self.known_behind = {}
        self.known_told = {}

    def place_of(self, marked):
        """The place of a marked state."""
        if marked not in self.places:
            place = len(self.marked)
            self.places[marked] = place
            self.marked.append(marked)
            end = self.side.ending(marked[1:])
            if end == "bad":
                self.ending_bad |= 1 << place
            elif end == "number" and marked[0] == 1:
                self.ending_new |= 1 << place
        return self.places[marked]

    def number_of(self, mask):
        """The number of the set of a mask."""
        if mask not in self.numbers:
            self.numbers[mask] = len(self.masks)
            self.masks.append(mask)
        return self.numbers[mask]

    def number_of_told(self, olds):
        """The number of a pair's olds."""
        mask = 0
        for marked in olds:
            mask |= 1 << self.place_of(marked)
        return self.number_of(mask)

    def told(self, number):
        """A pair's olds."""
        if number not in self.known_told:
            self.known_told[number] = tuple(sorted([self.marked[place] for place in places_in(self.masks[number])]))
        return self.known_told[number]

    def may_be_bad(self, number):
        """Whether any state ends as bad."""
        return self.masks[number] & self.ending_bad != 0

    def may_be_new(self, number):
        """Whether any state ends as a number that is new's."""
        return self.masks[number] & self.ending_new != 0

    def behind(self, number, fixed):
        """The numbers of the sets to which one comes by fixed bits, where new's bit is 0, and where it is 1."""
        key = (number, fixed)
        if key not in self.known_behind:
            by_zero = by_one = 0
            for place in places_in(self.masks[number]):
                more_by_zero, more_by_one = self.step(place, fixed)
                by_zero |= more_by_zero
                by_one |= more_by_one
            self.known_behind[key] = (self.number_of(by_zero), self.number_of(by_one))
        return self.known_behind[key]

    def step(self, place, fixed):
        """The masks to which one marked state comes, where new's bit is 0, and where it is 1."""
        key = (place, fixed)
        if key not in self.known_steps:
            mark, *state = self.marked[place]
            masks = [0, 0]
            for bit, behind, _ in self.side.moves(tuple(state), fixed):
                kept = 1 << self.place_of((mark, *behind))
                lost = 1 << self.place_of((0, *behind))
                masks[bit] |= kept
                masks[1 - bit] |= lost
            self.known_steps[key] = (masks[0], masks[1])
        return self.known_steps[key]

    def is_within(self, number, other):
        """Whether all of one set are in another one."""
        whole = self.masks[other]
        return self.masks[number] | whole == whole

    def has_within(self, numbers, other):
        """Whether all of a set, by one of numbers, are in another one."""
        whole = self.masks[other]
        for number in numbers:
            if self.masks[number] | whole == whole:
                return True
        return False
