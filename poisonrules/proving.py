"""Whether a serial rule is right at every width, with a paper for it or against it."""

from poisonrules.errors import TooMany
from poisonrules.grounds import Ground
from poisonrules.kinds import MOST
from poisonrules.rulestandings import standings_of
from poisonrules.walks import Walk


def decide(rule, *, most=MOST):
    """("right", paper), or ("wrong", standing, letters), fewest letters and least; TooMany by more pairs than most."""
    ground = Ground(rule)
    walked = []
    for standing in standings_of(rule):
        walk = Walk(ground, standing)
        walked.append((standing, walk, runs_of(walk, most)))
    against = []
    for standing, walk, runs in walked:
        for run in runs:
            letters = least_letters(walk, run)
            if letters is not None:
                against.append((len(letters), standing, letters))
    if len(against) > 0:
        _, standing, letters = min(against)
        return ("wrong", standing, letters)
    return ("right", tuple([kept_set(walk, runs) for _, walk, runs in walked]))


def kept_set(walk, runs):
    """All pairs behind the beginnings of runs, rising."""
    return tuple(sorted([walk.shown(pair) for run in runs for pair, _, _, _ in run[1:]]))


def runs_of(walk, most):
    """A run from each beginning; TooMany where more than most pairs come."""
    # What a beginning says of frozes and choices stays in all news behind it, so no two runs share a pair.
    found = {}
    return [run_from(walk, beginning, found, most) for beginning in walk.ground.beginnings]


def run_from(walk, beginning, found, most):
    """A beginning, then all pairs to which letters lead from it, each by the fewest and least letters, by these rising.

    Each is (short pair, the place in the run of the one ahead, the two parts of the last letter); found has all pairs
    that came up by now.
    """
    run = [(beginning, 0, 0, 0)]
    done = 0
    while done < len(run):
        for behind, at, lane in walk.ways(run[done][0]):
            if behind not in found:
                found[behind] = True
                run.append((behind, done, at, lane))
        if len(found) > most:
            raise TooMany(most)
        done += 1
    return run


def least_letters(walk, run):
    """The fewest letters, of such the least, that lead in run to a pair that does not stand, or None."""
    standing = walk.stand([pair for pair, _, _, _ in run[1:]])
    return letters_to(walk, run, 1 + standing.index(False)) if False in standing else None


def letters_to(walk, run, place):
    """The letters that lead in run to the pair at place."""
    letters = []
    while place > 0:
        _, place, at, lane = run[place]
        letters.append(walk.letter(at, lane))
    return tuple(letters[::-1])
