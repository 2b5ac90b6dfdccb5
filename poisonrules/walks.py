"""A rule that is walked bit by bit by one standing: what its letters lead to, and what stands."""

from poisonrules.olds import OldSteps
from poisonrules.rulestandings import NUMBER, WILD
from poisonrules.tracks import free_lanes


class Walk:
    """A ground by one standing. A pair is kept short, as (key of its news, mask of its olds)."""

    def __init__(self, ground, standing):
        self.ground = ground
        leaves = []
        wild = []
        bad = []
        for name, told in zip(ground.inputs, standing):
            if told == NUMBER:
                leaves.append(("look", name))
            elif told == WILD:
                wild.append(name)
            else:
                bad.append(name)
        leaves.extend(ground.consts)
        self.bad = tuple(bad)
        # A tuple of the fixed bits has its number among all, rising; its last ones are the constants'.
        self.many_fixed = len(leaves)
        self.last_tuple = (1 << len(ground.consts)) - 1
        self.new_bases = ground.new.base_lanes(leaves)
        self.new_weights = ground.new.free_weights(wild)
        self.olds = ground.olds
        self.old_steps = OldSteps(ground.olds, leaves, wild)
        self.known_moves = {}

    def moves(self, key):
        """To what new's state of a key comes, by letters that rise; of those that lead to the same there is the least.

        Each is (where olds' rows have the fixed bits, number of the constants' ones, new's bit, code behind, lane).
        """
        kind = key & self.ground.new.telling
        if kind not in self.known_moves:
            fields = self.ground.new.lanes(kind)
            free = free_lanes(self.new_weights, kind)
            found = []
            for number, base in enumerate(self.new_bases):
                lanes = {}
                for more in free:
                    lanes.setdefault(fields[base + more], more)
                for field, more in lanes.items():
                    found.append((2 * number, number & self.last_tuple, field & 1, field >> 1, more))
            self.known_moves[kind] = found
        return self.known_moves[kind]

    def ways(self, pair):
        """(short pair behind, where olds' rows have the fixed bits, lane) of a short pair, by letters that rise."""
        key, olds = pair
        tested = self.ground.tests_behind(key)
        come = self.old_steps.behind(olds)
        marks = self.olds.marks
        return [((tested[consts] | code, come[bit] >> at & marks), at, lane)
                for at, consts, bit, code, lane in self.moves(key)]

    def stand(self, pairs):
        """For each of short pairs whether it stands."""
        ends = self.ground.new_ends([key for key, _ in pairs], self.bad)
        last = self.ground.last_state
        bad, new = self.olds.ends(self.bad)
        return [olds & bad != 0 or ends[key & last] == "none" or ends[key & last] == "number" and olds & new != 0
                or not self.ground.tests_hold(key) for key, olds in pairs]

    def letter(self, at, lane):
        """The letter of which olds' rows have the fixed bits at a place, and whose others lead to a lane."""
        fixed = [at >> bit & 1 for bit in range(1, 1 + self.many_fixed)][::-1]
        return tuple(fixed + [1 if lane & weight != 0 else 0 for weight, _ in self.new_weights])

    def shown(self, pair):
        """A short pair as it is told."""
        key, olds = pair
        return (self.ground.news_told(key), self.olds.told(olds))
