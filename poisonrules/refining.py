"""Whether a program's outcomes are let by those of another one, and checks of what is told against it."""

from poisonrules.kinds import BAD, FAULT
from poisonrules.running import are_let, bad_places, outcomes_of, spoilt
from poisonrules.standings import program_standings, runs_by, worths_at
from poisonrules.wholes import are_wholes


def refined(one, other):
    """None where by all worths other's outcomes are let by one's, else the least worths, with an outcome."""
    found = []
    for standing in program_standings(one):
        unlet = unlet_masks(runs_by(one, standing).told(), runs_by(other, standing).told())
        places = [(mask & -mask).bit_length() - 1 for mask in unlet.values()]
        if len(places) > 0:
            least = min(places)
            outcome = min([outcome for outcome, mask in unlet.items() if mask >> least & 1 == 1])
            found.append((worths_at(one, standing, least), outcome))
    return min(found) if len(found) > 0 else None


def unlet_masks(lets, told):
    """The outcomes told that by themselves are not let by others, each with a mask of the worths by which it is so."""
    faults = lets.get((FAULT,), 0)
    patterns = bad_places([outcome for outcome in lets if outcome != (FAULT,)])
    found = {}
    for outcome, mask in told.items():
        left = mask & ~faults
        if outcome != (FAULT,):
            for pattern in patterns:
                left &= ~lets.get(spoilt(outcome, pattern), 0)
        if left != 0:
            found[outcome] = left
    return found


def refined_holds(one, other, thing):
    """Whether thing is (worths, outcome) by which other's outcomes are not let by one's."""
    if not isinstance(thing, tuple) or len(thing) != 2 or not all([isinstance(one, tuple) for one in thing]):
        return False
    worths, outcome = thing
    if not are_wholes(worths + outcome):
        return False
    if len(worths) != len(one.inputs) or not all([BAD <= worth < 1 << one.width for worth in worths]):
        return False
    return outcome in outcomes_of(other, worths) and not are_let((outcome,), outcomes_of(one, worths))
