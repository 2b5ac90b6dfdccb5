"""Sets of what one beginning of a rule may have come to by one standing, as the bits of its constants come."""


class Strand:
    """What comes of one beginning by one standing. A set is a rising tuple of places of pairs in the walk.

    What a beginning says of frozes and choices stays in all news behind it, so no two strands share a pair.
    """

    def __init__(self, walk, standing, first):
        self.walk = walk
        self.standing = standing
        self.first = first
        self.sets = [(first,)]
        self.numbers = {(first,): 0}
        self.known_steps = {}
        self.known_standing = {}

    def step(self, number, bits):
        """The number of the set behind a set, by its number, by the constants' bits of a number."""
        key = (number, bits)
        if key not in self.known_steps:
            self.known_steps[key] = self.number_of(self.set_behind(self.sets[number], bits))
        return self.known_steps[key]

    def set_behind(self, places, bits):
        """The set behind one."""
        return tuple(sorted({behind for place in places for behind in self.walk.const_ways(place)[bits]}))

    def number_of(self, places):
        """The number of a set."""
        if places not in self.numbers:
            self.numbers[places] = len(self.sets)
            self.sets.append(places)
        return self.numbers[places]

    def all_stand(self, number):
        """Whether all pairs of a set, by its number, stand."""
        if number not in self.known_standing:
            self.known_standing[number] = all([self.walk.place_stands(place) for place in self.sets[number]])
        return self.known_standing[number]
