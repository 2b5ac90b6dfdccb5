"""The paper of a weakest machine: what it keeps where it lets, and what shows that it may not let elsewhere."""

from poisonrules.machines import rooms_ahead
from poisonrules.olds import has_within


def dead_rooms(machine):
    """For each room whether neither it nor any room behind it lets."""
    ahead = rooms_ahead(machine)
    dead = [True] * len(machine)
    waiting = [room for room, (let, _) in enumerate(machine) if let]
    while waiting:
        room = waiting.pop()
        if dead[room]:
            dead[room] = False
            waiting.extend([before for before, _ in ahead[room]])
    return dead


def keeps_of(machine, strands):
    """The keeps of a paper."""
    dead = dead_rooms(machine)
    found = []
    for strand in strands:
        pairs = common_pairs(machine, dead, strand)
        # One pair for all that come with the same news is often enough.
        if False in strand.walk.stand([pair for room, pair in pairs if machine[room][0]]):
            pairs = least_pairs(machine, dead, strand)
        found.extend([(room, strand.standing, *strand.walk.shown(pair)) for room, pair in pairs])
    return tuple(sorted(found))


def ways_behind(machine, dead, walk, room, pair):
    """(room behind, key of news, mask of olds) of all to which letters lead; from dead rooms on without olds."""
    found = []
    for behind, row in zip(machine[room][1], walk.const_ways(walk.place_of(pair))):
        pairs = [walk.pairs[place] for place in row]
        # Where neither a room nor any behind it lets nothing needs to stand, so no olds are needed.
        if dead[behind]:
            pairs = list({(key, 0): True for key, _ in pairs})
        found.extend([(behind, key, olds) for key, olds in pairs])
    return found


def common_pairs(machine, dead, strand):
    """(room, short pair): for each room and all that come there with the same news their common olds, and so on."""
    walk = strand.walk
    first, olds_at_first = walk.pairs[strand.first]
    kept = {(0, first): olds_at_first}
    waiting = [(0, first, olds_at_first)]
    done = 0
    while done < len(waiting):
        room, number, olds = waiting[done]
        done += 1
        # Fewer olds that came up meanwhile wait for their turn.
        if kept[room, number] == olds:
            for behind, one, more in ways_behind(machine, dead, walk, room, (number, olds)):
                known = kept.get((behind, one), more)
                common = known & more
                if (behind, one) not in kept or common != known:
                    kept[behind, one] = common
                    waiting.append((behind, one, common))
    return [(room, (number, olds)) for (room, number), olds in kept.items() if room != 0]


def least_pairs(machine, dead, strand):
    """(room, short pair): all to which a strand's letters lead from room 0 on, but those with needless olds."""
    walk = strand.walk
    kept = {}
    waiting = [(0, walk.pairs[strand.first])]
    done = 0
    while done < len(waiting):
        room, pair = waiting[done]
        done += 1
        # Where another one with fewer olds has come up meanwhile it serves for this one, too.
        if room == 0 or pair[1] in kept[room, pair[0]]:
            for behind, number, olds in ways_behind(machine, dead, walk, room, pair):
                some = kept.get((behind, number), [])
                if not has_within(some, olds):
                    left = [other for other in some if olds | other != other]
                    kept[behind, number] = [*left, olds]
                    waiting.append((behind, (number, olds)))
    return [(room, (number, olds)) for (room, number), some in kept.items() for olds in some]


def shows_of(machine, strands, keys):
    """The shows of a paper; keys has for each room the number of each strand's set."""
    shows = Shows(machine, strands, keys)
    for room, (let, _) in enumerate(machine):
        if room > 0 and not let:
            shows.refute(room)
    return shows.told()


class Shows:
    """For rooms and strands, by their places, some places of pairs; each such pair comes of one in each room ahead."""

    def __init__(self, machine, strands, keys):
        self.ahead = rooms_ahead(machine)
        self.strands = strands
        self.set_numbers = keys
        self.taken = {}

    def refute(self, room):
        """Have a pair in room that does not stand."""
        for at, strand in enumerate(self.strands):
            if not all([strand.walk.place_stands(place) for place in self.taken.get((room, at), {})]):
                return
        for at, strand in enumerate(self.strands):
            places = [place for place in self.members(room, at) if not strand.walk.place_stands(place)]
            if len(places) > 0:
                self.choose(room, at, places[0])
                return

    def members(self, room, at):
        """The places of all pairs of a strand that come up in room."""
        return self.strands[at].sets[self.set_numbers[room][at]]

    def choose(self, room, at, place):
        """Have a pair of a strand in room, and all that this needs in the rooms ahead."""
        waiting = [(room, place)]
        while waiting:
            one, needed = waiting.pop()
            places = self.taken.setdefault((one, at), {})
            if needed not in places:
                places[needed] = True
                waiting.extend([(before, self.place_ahead(before, at, needed, bits))
                                for before, bits in self.ahead[one] if before != 0])

    def place_ahead(self, room, at, place, bits):
        """The place of a pair in room from which bits lead to that of place, one that was chosen where there is one."""
        members = self.members(room, at)
        ahead = self.strands[at].walk.places_ahead(place, bits)
        some = [before for before in ahead if is_among(before, members)]
        chosen = self.taken.get((room, at), {})
        return ([before for before in some if before in chosen] + some)[0]

    def told(self):
        """All that was chosen, rising."""
        found = []
        for (room, at), places in self.taken.items():
            standing, walk = self.strands[at].standing, self.strands[at].walk
            found.extend([(room, standing, *walk.shown(walk.pairs[place])) for place in places])
        return tuple(sorted(found))


def is_among(number, numbers):
    """Whether number is one of numbers that rise."""
    low = 0
    high = len(numbers)
    while low < high:
        middle = (low + high) // 2
        if numbers[middle] < number:
            low = middle + 1
        else:
            high = middle
    return low < len(numbers) and numbers[low] == number
