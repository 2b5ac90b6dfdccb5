"""A walk whose pairs are kept by places, and lead on by the bits of the rule's constants."""

from poisonrules.walks import Walk


class PlacedWalk(Walk):
    """A Walk in which each pair that comes up has a place."""

    def __init__(self, ground, standing):
        super().__init__(ground, standing)
        self.pairs = []
        self.places = {}
        self.standing = []
        self.known_ways = {}
        self.known_ahead = {}

    def place_of(self, pair):
        """The place of a short pair."""
        if pair not in self.places:
            self.places[pair] = len(self.pairs)
            self.pairs.append(pair)
        return self.places[pair]

    def place_stands(self, place):
        """Whether the pair of a place stands."""
        if place >= len(self.standing):
            self.standing.extend(self.stand(self.pairs[len(self.standing):]))
        return self.standing[place]

    def const_ways(self, place):
        """For each tuple of the constants' bits, rising, the places of all pairs behind that of a place."""
        if place not in self.known_ways:
            found = [{} for _ in range(self.last_tuple + 1)]
            for behind, at, _ in self.ways(self.pairs[place]):
                found[at // 2 & self.last_tuple][self.place_of(behind)] = True
            self.known_ways[place] = [list(one) for one in found]
        return self.known_ways[place]

    def places_ahead(self, place, bits):
        """The places of pairs whose ways are known from which the constants' bits of a number lead to that of place."""
        if len(self.known_ahead) == 0:
            for before, rows in self.known_ways.items():
                for number, row in enumerate(rows):
                    for behind in row:
                        self.known_ahead.setdefault((behind, number), []).append(before)
        return self.known_ahead[place, bits]
