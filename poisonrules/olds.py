"""All that an old term may have come to so far, as masks: one bit for each of its states that came up."""

from poisonrules.masks import places_in


class Olds:
    """The states of a rule's old that came up, numbered; of marked ones all bits were the new term's."""

    def __init__(self, side):
        self.side = side
        self.states = []
        self.places = {}
        self.ending_bad = 0
        self.ending_number = 0
        self.steps = {}
        self.spreads = {}

    def place_of(self, state):
        """The number of state."""
        if state not in self.places:
            place = len(self.states)
            self.places[state] = place
            self.states.append(state)
            end = self.side.ending(state)
            if end == "bad":
                self.ending_bad |= 1 << place
            elif end == "number":
                self.ending_number |= 1 << place
        return self.places[state]

    def masks_of(self, olds):
        """(marked, unmarked) of the olds of a pair."""
        masks = [0, 0]
        for mark, *state in olds:
            masks[mark] |= 1 << self.place_of(tuple(state))
        return (masks[1], masks[0])

    def shown(self, marked, unmarked):
        """The olds of a pair."""
        found = [(1, *self.states[place]) for place in places_in(marked)]
        found.extend([(0, *self.states[place]) for place in places_in(unmarked)])
        return tuple(sorted(found))

    def behind(self, marked, unmarked, fixed, bit):
        """(marked, unmarked) to which these come by fixed bits, where new has bit."""
        kept = self.spread(marked, fixed)
        lost = self.spread(unmarked, fixed)
        return (kept[bit], kept[1 - bit] | lost[0] | lost[1])

    def spread(self, mask, fixed):
        """(the states behind a 0, those behind a 1) of all states of mask by fixed bits."""
        key = (mask, fixed)
        if key not in self.spreads:
            zeros = ones = 0
            for place in places_in(mask):
                by_zero, by_one = self.step(place, fixed)
                zeros |= by_zero
                ones |= by_one
            self.spreads[key] = (zeros, ones)
        return self.spreads[key]

    def step(self, place, fixed):
        """As spread, of one state."""
        key = (place, fixed)
        if key not in self.steps:
            masks = [0, 0]
            for bit, behind, _ in self.side.moves(self.states[place], fixed):
                masks[bit] |= 1 << self.place_of(behind)
            self.steps[key] = (masks[0], masks[1])
        return self.steps[key]


def has_within(kept, marked, unmarked):
    """Whether one of kept has no olds but these."""
    for some_marked, some_unmarked in kept:
        if some_marked | marked == marked and some_unmarked | unmarked == unmarked:
            return True
    return False
