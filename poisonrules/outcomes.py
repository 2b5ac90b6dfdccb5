"""All that a term may come to."""

from poisonrules.kinds import ANY, BAD, FAULT, WIDTH
from poisonrules.reckoning import combined
from poisonrules.terms import consts_of, inputs_of, parts_of, things_of


def outcomes(term, worths, *, consts=(), width=WIDTH):
    """All that term may come to, rising, by worths of its inputs and numbers of its constants, as these rise."""
    return outcomes_by(term, dict(zip(inputs_of(term), worths)), dict(zip(consts_of(term), consts)), width)


def outcomes_by(term, worths, numbers, width):
    """As outcomes, but by dicts, which may have other names, too."""
    # What the parts come to is independent, as each look at ANY and each froze stands but once in a term: so the
    # outcomes of parts tell those of the whole. From the last thing on, each thing's parts are ready.
    ready = []
    for thing in reversed(things_of(term)):
        parts = [ready.pop() for _ in parts_of(thing)]
        if len(parts) == 0:
            ready.append(leaf_outcomes(thing, worths, numbers, width))
        else:
            ready.append(combined(thing, parts, width))
    return ready.pop()


def leaf_outcomes(leaf, worths, numbers, width):
    """All that a look, const or num may come to, rising."""
    head, word = leaf
    if head == "const":
        return (numbers[word],)
    if head == "num":
        return (word & ((1 << width) - 1),)
    if worths[word] == ANY:
        return tuple(range(1 << width))
    return (worths[word],)


def is_let(new, old):
    """Whether the outcomes new are let by the outcomes old."""
    if FAULT in old:
        return True
    if FAULT in new:
        return False
    return BAD in old or all([outcome in old for outcome in new])
