"""How states end behind a bit at least, many at once: a mask has a one for each state, at its place."""

from poisonrules.terms import FLAGGED

# The numbers by which two terms that are compared are so, all bits read: 2r + d, perhaps with six more. Where the last
# bits are unlike the one with a 1 there is below 0, though it was read as the greater.
TOLD_BY = {"same": (0, 1, 6, 7), "unlike": (2, 3, 4, 5), "below": (2, 3, 8, 9), "under": (2, 5, 8, 11)}
UNHELD = (6, 7, 8, 9, 10, 11)
FROZEN = (1,)
OVERRUN = {"": (), "u": (1, 3), "s": (1, 2), "us": (1, 2, 3)}


def is_told(comparison, number):
    """Whether two numbers are as comparison tells, all bits read; number has their 2r + d, perhaps with six more."""
    return number in TOLD_BY[comparison]


def ends_of(things, states, bad):
    """How each of states ends, none, bad or number, by a term's things, the last one first, and inputs that are bad."""
    if len(states) == 0:
        return []
    amiss, poisoned = masks_of_ends(things, states, bad)
    return ["none" if amiss >> at & 1 == 1 else "bad" if poisoned >> at & 1 == 1 else "number"
            for at in range(len(states))]


def stands_by_ends(new_things, state, old_things, olds, bad):
    """Whether a pair stands whose tests hold, by things, the last one first, new's state, and inputs that are bad."""
    end = ends_of(new_things, [state], bad)[0]
    if end == "none":
        return True
    ends = ends_of(old_things, [numbers for _, *numbers in olds], bad)
    return "bad" in ends or end == "number" and (1, "number") in [(one[0], ended) for one, ended in zip(olds, ends)]


def masks_of_ends(things, states, bad):
    """The masks of those of some states that end as none, and of those whose whole is bad."""
    columns = list(zip(*states))
    every = (1 << len(states)) - 1
    ready = []
    amiss = 0
    for thing in things:
        head = thing[0]
        if head == "look":
            ready.append(every if thing[1] in bad else 0)
        elif head == "const":
            ready.append(0)
        elif head == "num":
            columns.pop()
            ready.append(0)
        elif head == "froze":
            amiss |= mask_where(columns.pop(), FROZEN) ^ ready.pop()
            ready.append(0)
        elif head == "choice":
            more, poisoned = chosen_ends(thing[1][0], columns.pop(), ready, every)
            amiss |= more
            ready.append(poisoned)
        elif head in FLAGGED:
            column = columns.pop()
            poisoned = ready.pop() if head == "twice" else ready.pop() | ready.pop()
            ready.append(poisoned if thing[1] == "" else poisoned | mask_where(column, OVERRUN[thing[1]]))
        elif head != "not":
            ready.append(ready.pop() | ready.pop())
    return (amiss, ready.pop())


def chosen_ends(comparison, column, ready, every):
    """(those that end as none, those that are bad) by a choice, whose parts are the last of ready."""
    compared = ready.pop() | ready.pop()
    held = ready.pop()
    unheld = ready.pop()
    chosen = mask_where(column, UNHELD)
    # Of one that compares what is bad g is 0.
    holds = compared | mask_where(column, TOLD_BY[comparison])
    return (every ^ chosen ^ holds, compared | held & ~chosen | unheld & chosen)


def mask_where(column, wanted):
    """The mask of the states that have one of the numbers wanted in a column."""
    mask = 0
    for at, number in enumerate(column):
        if number in wanted:
            mask |= 1 << at
    return mask
