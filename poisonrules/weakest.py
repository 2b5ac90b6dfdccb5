"""The weakest machine of a serial rule, with its paper."""

from poisonrules.errors import TooMany
from poisonrules.grounds import Ground
from poisonrules.kinds import MOST
from poisonrules.placedwalks import PlacedWalk
from poisonrules.rules import Rule
from poisonrules.rulestandings import standings_of
from poisonrules.strands import Strand
from poisonrules.terms import consts_of
from poisonrules.weakpapers import keeps_of, shows_of


def weakest(rule, *, most=MOST):
    """(machine, paper), the machine weakest; TooMany where more than most unlike sets come."""
    many_tuples = 1 << len(consts_of(rule.old))
    strands = strands_of(Rule(rule.name, rule.old, rule.new))
    keys, _ = rooms_of(strands, many_tuples, most)
    telling = telling_strands(strands, keys)
    keys, nexts = rooms_of(telling, many_tuples, most)
    lets = [False] + [stand_together(telling, key) for key in keys[1:]]
    machine = tuple(zip(lets, nexts))
    return (machine, (keeps_of(machine, strands), shows_of(machine, telling, keys)))


def strands_of(rule):
    """A strand for each beginning by each standing."""
    ground = Ground(rule)
    found = []
    for standing in standings_of(rule):
        walk = PlacedWalk(ground, standing)
        found.extend([Strand(walk, standing, walk.place_of(beginning)) for beginning in ground.beginnings])
    return found


def rooms_of(strands, many_tuples, most):
    """(keys, nexts): for each room the number of each strand's set, and the rooms behind it; TooMany rooms but 0."""
    # Room 0 is none of numbers: where its sets come again they are those of another room.
    keys = [tuple([0] * len(strands))]
    numbers = {}
    nexts = []
    while len(nexts) < len(keys):
        key = keys[len(nexts)]
        behind = [tuple([strand.step(number, bits) for strand, number in zip(strands, key)])
                  for bits in range(many_tuples)]
        for one in behind:
            if one not in numbers:
                numbers[one] = len(keys)
                keys.append(one)
        if len(numbers) > most:
            raise TooMany(most)
        nexts.append(tuple([numbers[one] for one in behind]))
    return (keys, nexts)


def stand_together(strands, key):
    """Whether all that is in a room, by its key, stands."""
    return all([strand.all_stand(number) for strand, number in zip(strands, key)])


def telling_strands(strands, keys):
    """Some strands, of which in each room that must not let one at least does not stand.

    By them alone rooms are fewer, and tell the same.
    """
    left = [key for key in keys[1:] if not stand_together(strands, key)]
    found = []
    while len(left) > 0:
        # The one that serves for the most rooms goes first, so that few are taken.
        counts = [len([key for key in left if not strand.all_stand(key[at])]) for at, strand in enumerate(strands)]
        best = counts.index(max(counts))
        found.append(strands[best])
        left = [key for key in left if strands[best].all_stand(key[best])]
    return found
