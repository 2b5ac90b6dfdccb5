"""Whether a rule is right at a width, by all words."""

from poisonrules.blocks import Blocks
from poisonrules.codes import HELD, UNHELD
from poisonrules.kinds import BAD, FAULT, WIDTH
from poisonrules.masks import places_in
from poisonrules.terms import things_of


def judged(rule, *, width=WIDTH):
    """None where rule is right at width, else the least worths by which it is not, with an outcome."""
    # Consts sort ahead of looks, as their numbers stand ahead of worths.
    names = sorted({thing for thing in things_of(rule.old) if thing[0] in ("look", "const")})
    blocks = Blocks(names, width)
    tests = [test_slot(blocks, test) for test in rule.cond]
    testing = list(blocks.steps)
    reckoning = None
    for at in range(len(blocks.firsts)):
        blocks.begin(at)
        blocks.go_on(testing)
        held = rows_held(blocks, tests)
        if True in held:
            # Not ahead of this, as there may be no numbers by which all tests hold.
            if reckoning is None:
                old, new = blocks.slot_of(rule.old), blocks.slot_of(rule.new)
                reckoning = blocks.steps[len(testing):]
            # Things that share a slot come to the same.
            if old == new:
                return None
            blocks.go_on(reckoning)
            found = first_unlet(blocks, held, old, new)
            if found is not None:
                return (blocks.worths(at, found[0]), found[1])
    return None


def test_slot(blocks, test):
    """(the slot of what test compares, what is there where it holds)."""
    comparison, one, other = test
    slots = [blocks.slot_of(one), blocks.slot_of(other)]
    if comparison == "unlike":
        return (blocks.slot_by("choice", "same", slots), UNHELD)
    return (blocks.slot_by("choice", comparison, slots), HELD)


def rows_held(blocks, tests):
    """For each row whether all tests hold."""
    held = [True] * blocks.many_rows
    for slot, wanted in tests:
        column = blocks.columns[slot]
        if len(column) > 1:
            held = [was and told == wanted for was, told in zip(held, column)]
        elif column[0] != wanted:
            return []
    return held


def first_unlet(blocks, held, old, new):
    """(row, outcome) of the first row that is held whose new is not let by old, or None."""
    lets, told = blocks.columns[old], blocks.columns[new]
    if lets == told:
        return None
    for row, (holds, let, came) in enumerate(zip(held, blocks.filled(lets), blocks.filled(told))):
        if let != came and holds:
            outcome = unlet_outcome(blocks.codes, let, came)
            if outcome is not None:
                return (row, outcome)
    return None


def unlet_outcome(codes, let, came):
    """The least outcome of the code came that is not let by the code let, or None."""
    if let <= codes.fault:
        return None
    if came <= codes.fault:
        return FAULT
    lets = codes.mask(let)
    more = codes.mask(came) & ~lets
    if more == 0 or lets >= -codes.bad:
        return None
    return BAD if more >= -codes.bad else places_in(more)[0]
