"""Sets of what one beginning of a rule may have come to by one standing, as the bits of its constants come."""


class Strand:
    """What comes of one beginning by one standing. A pair is kept by its place, a set as a rising tuple of places.

    What a beginning says of frozes and choices stays in all news behind it, so no two strands share a pair.
    """

    def __init__(self, walk, standing, beginning):
        self.walk = walk
        self.standing = standing
        self.pairs = [beginning]
        self.places = {beginning: 0}
        self.sets = [(0,)]
        self.set_numbers = {(0,): 0}
        self.known_ways = {}
        self.known_ahead = {}
        self.known_steps = {}
        self.known_standing = {}

    def place_of(self, pair):
        """The place of a short pair."""
        if pair not in self.places:
            self.places[pair] = len(self.pairs)
            self.pairs.append(pair)
        return self.places[pair]

    def stands(self, place):
        """Whether the pair of a place stands."""
        return self.walk.stands(self.pairs[place])

    def ways(self, place):
        """For each tuple of the constants' bits, rising, the places of the pairs behind that of a place."""
        if place not in self.known_ways:
            rows = self.walk.const_ways(self.pairs[place])
            self.known_ways[place] = [[self.place_of(pair) for pair in row] for row in rows]
        return self.known_ways[place]

    def places_ahead(self, place, bits):
        """The places of all pairs from which the constants' bits of a number lead to that of place, where any do."""
        if len(self.known_ahead) == 0:
            for before, rows in self.known_ways.items():
                for number, row in enumerate(rows):
                    for behind in row:
                        self.known_ahead.setdefault((behind, number), []).append(before)
        return self.known_ahead[place, bits]

    def step(self, number, bits):
        """The number of the set behind a set, by its number, by the constants' bits of a number."""
        key = (number, bits)
        if key not in self.known_steps:
            self.known_steps[key] = self.number_of(self.set_behind(self.sets[number], bits))
        return self.known_steps[key]

    def set_behind(self, places, bits):
        """The set behind one."""
        return tuple(sorted({behind for place in places for behind in self.ways(place)[bits]}))

    def number_of(self, places):
        """The number of a set."""
        if places not in self.set_numbers:
            self.set_numbers[places] = len(self.sets)
            self.sets.append(places)
        return self.set_numbers[places]

    def all_stand(self, number):
        """Whether all pairs of a set, by its number, stand."""
        if number not in self.known_standing:
            self.known_standing[number] = all([self.stands(place) for place in self.sets[number]])
        return self.known_standing[number]
