"""All that a program may come to by worths of its inputs."""

from poisonrules.kinds import ANY, BAD, FAULT
from poisonrules.runs import Runs


def outcomes_of(program, worths):
    """All outcomes of program, rising, by worths of its inputs: (FAULT,), or tuples of its outs' worths."""
    looks = {name: look_worths(worth, program.width) for name, worth in zip(program.inputs, worths)}
    return tuple(sorted(Runs(program, looks, 1).told()))


def look_worths(worth, width):
    """What a look at an input of this worth may come to, in one run."""
    return {number: 1 for number in range(1 << width)} if worth == ANY else {worth: 1}


def are_let(new, old):
    """Whether the outcomes new of a program are let by the outcomes old of another one."""
    lets = {outcome: True for outcome in old}
    if (FAULT,) in lets:
        return True
    patterns = bad_places(lets)
    return all([outcome != (FAULT,) and is_covered(outcome, patterns, lets) for outcome in new])


def is_covered(outcome, patterns, lets):
    """Whether one of lets is alike or BAD at each place; patterns has the places at which these are BAD."""
    for pattern in patterns:
        if spoilt(outcome, pattern) in lets:
            return True
    return False


def bad_places(outcomes):
    """For all outcomes whether they are BAD, place by place, each such row once."""
    return list({tuple([worth == BAD for worth in outcome]): True for outcome in outcomes})


def spoilt(outcome, pattern):
    """An outcome made BAD at the places of a pattern."""
    if True not in pattern:
        return outcome
    return tuple([BAD if is_bad else worth for worth, is_bad in zip(outcome, pattern)])
