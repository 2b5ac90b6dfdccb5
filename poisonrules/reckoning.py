"""What a thing of a term comes to by what its parts came to."""

from poisonrules.kinds import BAD, FAULT
from poisonrules.terms import FLAGGED
from poisonrules.tuples import tuples_of


def combined(thing, parts, width):
    """All that thing may come to, rising; parts has, for each of its parts, all that this may come to."""
    found = [FAULT for part in parts if FAULT in part]
    sound = [[worth for worth in part if worth != FAULT] for part in parts]
    # A part that can come to nothing but FAULT leaves nothing else for the whole.
    if [] not in sound:
        found.extend(sound_outcomes(thing, sound, width))
    return tuple(sorted(set(found)))


def sound_outcomes(thing, parts, width):
    """What thing may come to where no part comes to FAULT."""
    head = thing[0]
    if head == "choice":
        return chosen(thing[1][0], parts, width)
    if head == "froze":
        return frozen_worths(parts[0], width)
    return [reckoned(thing, worths, width) for worths in tuples_of(parts)]


def chosen(comparison, parts, width):
    """What a choice may come to: its parts are the two that are compared, then the two sides."""
    ones, others, held, unheld = parts
    verdicts = [holds(comparison, one, other, width)
                for one in ones for other in others if BAD not in (one, other)]
    found = [BAD for compared in (ones, others) if BAD in compared]
    if True in verdicts:
        found.extend(held)
    if False in verdicts:
        found.extend(unheld)
    return found


def frozen_worths(worths, width):
    """What a froze may come to."""
    return list(range(1 << width)) if BAD in worths else worths


def reckoned(thing, worths, width):
    """The one worth of all other things, by one worth of each part, none of them FAULT."""
    head = thing[0]
    # Of a single part twice: so twice is a sum.
    one, other = worths[0], worths[-1]
    if head in ("quot", "rest") and other in (0, BAD):
        return FAULT
    if BAD in worths:
        return BAD
    if head in FLAGGED and overruns(head, thing[1], one, other, width):
        return BAD
    if head in ("left", "right") and other >= width:
        return BAD
    return whole_worth(head, one, other) & ((1 << width) - 1)


def whole_worth(head, one, other):
    """What is reckoned of numbers, ahead of taking."""
    if head in ("sum", "twice"):
        return one + other
    if head == "less":
        return one - other
    if head == "times":
        return one * other
    if head == "quot":
        return one // other
    if head == "rest":
        return one % other
    if head == "left":
        return one << other
    if head == "right":
        return one >> other
    return bitwise(head, one, other)


def bitwise(head, one, other):
    """What is reckoned bit by bit."""
    if head == "and":
        return one & other
    if head == "or":
        return one | other
    if head == "xor":
        return one ^ other
    return ~one


def overruns(head, flags, one, other, width):
    """Whether a sum, less or twice is BAD by its flags."""
    top = 1 << width
    half = 1 << (width - 1)
    if "u" in flags and not 0 <= whole_worth(head, one, other) < top:
        return True
    return "s" in flags and not -half <= whole_worth(head, signed(one, width), signed(other, width)) < half


def signed(number, width):
    """The number as it counts where half of all numbers are below 0."""
    return number - (1 << width) if number >= 1 << (width - 1) else number


def holds(comparison, one, other, width):
    """Whether two numbers are as comparison tells."""
    if comparison == "same":
        return one == other
    if comparison == "unlike":
        return one != other
    if comparison == "below":
        return one < other
    return signed(one, width) < signed(other, width)
