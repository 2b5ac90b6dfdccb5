"""By what a program may fault."""

from poisonrules.masks import places_in
from poisonrules.standings import program_standings, runs_by, worths_at

FAULTING = ("quot", "rest")


def fault_worths(program):
    """The worths by which program has (FAULT,) among its outcomes, rising."""
    found = []
    # Nothing else faults, so most programs need no look.
    if any([line[0] in FAULTING for line in program.lines]):
        for standing in program_standings(program):
            faults = runs_by(program, standing).faults_told()
            found.extend([worths_at(program, standing, place) for place in places_in(faults)])
    return tuple(sorted(found))
