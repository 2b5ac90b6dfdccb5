"""The paper of a weakest machine: what it keeps where it lets, and what shows that it may not let elsewhere."""

from poisonrules.machines import rooms_ahead
from poisonrules.olds import has_within


def dead_rooms(machine):
    """For each room whether neither it nor any room behind it lets."""
    ahead = rooms_ahead(machine)
    dead = [True] * len(machine)
    waiting = [room for room, (let, _) in enumerate(machine) if let]
    while waiting:
        room = waiting.pop()
        if dead[room]:
            dead[room] = False
            waiting.extend([before for before, _ in ahead[room]])
    return dead


def keeps_of(machine, strands):
    """The keeps of a paper."""
    dead = dead_rooms(machine)
    found = []
    for strand in strands:
        for room, pair in least_pairs(machine, dead, strand):
            found.append((room, strand.standing, *strand.walk.shown(pair)))
    return tuple(sorted(found))


def least_pairs(machine, dead, strand):
    """(room, short pair): all to which a strand's letters lead from room 0 on, but those with needless olds."""
    kept = {}
    waiting = [(0, strand.pairs[0])]
    done = 0
    while done < len(waiting):
        room, pair = waiting[done]
        done += 1
        # Where another one with fewer olds has come up meanwhile it serves for this one, too.
        if room == 0 or pair[1:] in kept[room, pair[0]]:
            for behind, row in zip(machine[room][1], strand.walk.const_ways(pair)):
                waiting.extend(taken(kept, behind, without_olds(row) if dead[behind] else row))
    return [(room, (number, *olds)) for (room, number), some in kept.items() for olds in some]


def without_olds(pairs):
    """Short pairs without their olds, each once: where nothing behind needs to stand none are needed."""
    return list({(number, 0, 0): True for number, _, _ in pairs})


def taken(kept, room, pairs):
    """Keep short pairs in room, each instead of those that have more olds; told are those that are new, with room."""
    found = []
    for number, marked, unmarked in pairs:
        some = kept.get((room, number), [])
        if not has_within(some, marked, unmarked):
            olds = (marked, unmarked)
            left = [one for one in some if not has_within([olds], one[0], one[1])]
            kept[room, number] = [*left, olds]
            found.append((room, (number, marked, unmarked)))
    return found


def shows_of(machine, strands, keys):
    """The shows of a paper; keys has for each room the number of each strand's set."""
    shows = Shows(machine, strands, keys)
    for room, (let, _) in enumerate(machine):
        if room > 0 and not let:
            shows.refute(room)
    return shows.told()


class Shows:
    """For rooms and strands, by their places, some places of pairs; each such pair comes of one in each room ahead."""

    def __init__(self, machine, strands, keys):
        self.ahead = rooms_ahead(machine)
        self.strands = strands
        self.set_numbers = keys
        self.chosen = {}

    def refute(self, room):
        """Have a pair in room that does not stand."""
        for at, strand in enumerate(self.strands):
            if not all([strand.stands(place) for place in self.chosen.get((room, at), {})]):
                return
        for at, strand in enumerate(self.strands):
            places = [place for place in self.members(room, at) if not strand.stands(place)]
            if len(places) > 0:
                self.choose(room, at, places[0])
                return

    def members(self, room, at):
        """The places of all pairs of a strand that come up in room."""
        return self.strands[at].sets[self.set_numbers[room][at]]

    def choose(self, room, at, place):
        """Have a pair of a strand in room, and all that this needs in the rooms ahead."""
        waiting = [(room, place)]
        while waiting:
            one, needed = waiting.pop()
            places = self.chosen.setdefault((one, at), {})
            if needed not in places:
                places[needed] = True
                waiting.extend([(before, self.place_ahead(before, at, needed, bits))
                                for before, bits in self.ahead[one] if before != 0])

    def place_ahead(self, room, at, place, bits):
        """The place of a pair in room from which bits lead to that of place, one that was chosen where there is one."""
        members = self.members(room, at)
        some = [before for before in self.strands[at].places_ahead(place, bits) if is_among(before, members)]
        chosen = self.chosen.get((room, at), {})
        return ([before for before in some if before in chosen] + some)[0]

    def told(self):
        """All that was chosen, rising."""
        found = []
        for (room, at), places in self.chosen.items():
            strand = self.strands[at]
            found.extend([(room, strand.standing, *strand.walk.shown(strand.pairs[place])) for place in places])
        return tuple(sorted(found))


def is_among(number, numbers):
    """Whether number is one of numbers that rise."""
    low = 0
    high = len(numbers)
    while low < high:
        middle = (low + high) // 2
        if numbers[middle] < number:
            low = middle + 1
        else:
            high = middle
    return low < len(numbers) and numbers[low] == number
