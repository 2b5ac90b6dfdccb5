"""All that an old term may have come to so far, kept as masks."""

from poisonrules.masks import places_in
from poisonrules.tracks import free_lanes


class Olds:
    """The states of a rule's old that came up, by whatever standing.

    Each state has a block of places, two for each tuple of the bits that letters have. A set of olds is a mask of the
    first two of blocks: of those that are not all new's bits so far, and those that are. So one row can have all to
    which a state comes, the two for each tuple of bits at the place of these.
    """

    def __init__(self, track, many_bits):
        self.track = track
        self.block_bits = many_bits + 1
        self.codes = []
        self.units = {}
        # The first two places of all blocks.
        self.marks = 0
        self.known_lanes = {}
        self.known_told = {}
        self.known_ends = {}

    def unit_of(self, code):
        """The mask of a state by its code that is not all new's bits; twice that is one that is."""
        if code not in self.units:
            unit = 1 << (len(self.codes) << self.block_bits)
            self.units[code] = unit
            self.codes.append(code)
            self.marks |= 3 * unit
        return self.units[code]

    def told(self, mask):
        """A pair's olds by their mask."""
        if mask not in self.known_told:
            told = [(place & 1, self.codes[place >> self.block_bits]) for place in places_in(mask)]
            self.known_told[mask] = tuple(sorted([(mark, *self.track.numbers_of(code)) for mark, code in told]))
        return self.known_told[mask]

    def lanes(self, code):
        """For all lanes (bit, mask of the state behind) behind a code."""
        key = code & self.track.telling
        if key not in self.known_lanes:
            self.known_lanes[key] = [(field & 1, self.unit_of(field >> 1)) for field in self.track.lanes(key)]
        return self.known_lanes[key]

    def ends(self, bad):
        """The masks of all that end as bad, and of all that end as a number that is new's, by inputs that are bad."""
        ended, ending_bad, ending_new = self.known_ends.get(bad, (0, 0, 0))
        if ended < len(self.codes):
            codes = self.codes[ended:]
            for code, end in zip(codes, self.track.ends(codes, bad)):
                if end == "bad":
                    ending_bad |= 3 * self.units[code]
                elif end == "number":
                    ending_new |= 2 * self.units[code]
            self.known_ends[bad] = (len(self.codes), ending_bad, ending_new)
        return (ending_bad, ending_new)


class OldSteps:
    """To what sets of olds come by one standing."""

    def __init__(self, olds, leaves, wild):
        self.olds = olds
        self.bases = olds.track.base_lanes(leaves)
        self.weights = olds.track.free_weights(wild)
        self.rows = {}
        self.known = {}

    def behind(self, mask):
        """All to which a set comes by new's bits 0 and 1, each for all tuples of the fixed bits at once."""
        if mask not in self.known:
            by_zero = by_one = 0
            for place in places_in(mask):
                kept_zero, kept_one, lost = self.row(self.olds.codes[place >> self.olds.block_bits])
                by_zero |= kept_zero if place & 1 == 1 else lost
                by_one |= kept_one if place & 1 == 1 else lost
            self.known[mask] = (by_zero, by_one)
        return self.known[mask]

    def row(self, code):
        """All to which a state comes: marked where new's bit is 0, marked where it is 1, and not marked."""
        key = code & self.olds.track.telling
        if key not in self.rows:
            lanes = self.olds.lanes(key)
            masks = [0, 0]
            free = free_lanes(self.weights, key)
            at = 0
            for base in self.bases:
                for more in free:
                    bit, unit = lanes[base + more]
                    masks[bit] |= unit << at
                at += 2
            zero, one = masks
            self.rows[key] = (zero << 1 | one, one << 1 | zero, zero | one)
        return self.rows[key]


def has_within(masks, whole):
    """Whether all of one of masks are in whole."""
    for mask in masks:
        if mask | whole == whole:
            return True
    return False
