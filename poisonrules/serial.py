"""Terms bit by bit, the least bit first: their states, what they come to, how they end."""

from poisonrules.terms import FLAGGED, parts_of, things_of
from poisonrules.tuples import tuples_of

UNSERIAL = ("times", "quot", "rest", "left", "right")
# The things that have a number in a state, and those that have a bit of their own among the bits handed in.
STATED = ("num", "sum", "less", "twice", "froze", "choice")
DRAWN = ("look", "const", "froze")


def is_serial(term):
    """Whether term goes bit by bit."""
    return all([thing[0] not in UNSERIAL for thing in things_of(term)])


def is_serial_rule(rule):
    """Whether old and new of rule are serial."""
    return is_serial(rule.old) and is_serial(rule.new)


def stated_things(term):
    """The things of term that have a number in a state, as written."""
    return [thing for thing in things_of(term) if thing[0] in STATED]


def starts(term):
    """All states with which term may begin, rising."""
    return tuple(tuples_of([first_numbers(thing) for thing in stated_things(term)]))


def first_numbers(thing):
    """The numbers with which thing may begin, rising."""
    head = thing[0]
    if head == "num":
        return [thing[1]]
    if head == "froze":
        return [0, 1]
    return [0, 6] if head == "choice" else [0]


def plan_of(term):
    """(word, how many parts) of each thing of term, from the last one on: so parts are ready ahead of the whole."""
    return [(thing[0], len(parts_of(thing))) for thing in reversed(things_of(term))]


def after(term, state, bits):
    """(bit, state behind) to which term comes from state, by a bit for each look, const and froze."""
    return after_by(plan_of(term), state, bits)


def after_by(plan, state, bits):
    """As after, by the plan of a term."""
    numbers = list(state)
    drawn = list(bits)
    ready = []
    behind = []
    for head, many in plan:
        parts = [ready.pop() for _ in range(many)]
        own = drawn.pop() if head in DRAWN else 0
        if head in STATED:
            bit, number = bit_and_number(head, parts, own, numbers.pop())
            behind.append(number)
            ready.append(bit)
        else:
            ready.append(bit_alone(head, parts, own))
    return (ready.pop(), tuple(behind[::-1]))


def bit_alone(head, parts, own):
    """The bit of a thing that has no number."""
    if head in DRAWN:
        return own
    if head == "and":
        return parts[0] & parts[1]
    if head == "or":
        return parts[0] | parts[1]
    if head == "xor":
        return parts[0] ^ parts[1]
    return 1 - parts[0]


def bit_and_number(head, parts, own, number):
    """The bit of a thing that has a number, and its number behind it."""
    if head == "num":
        return (number & 1, number >> 1)
    if head == "froze":
        return (own if number == 1 else parts[0], number)
    if head == "choice":
        behind = number // 6 * 6 + compared_behind(number, parts[0], parts[1])
        return (parts[3] if number >= 6 else parts[2], behind)
    carried = number & 1
    if head == "twice":
        return (carried, 2 * carried + parts[0])
    reckoned = parts[0] + parts[1] + carried if head == "sum" else parts[0] - parts[1] - carried
    # Below 0 stands for a borrow: moved down by one place it is odd, as a carry is.
    return (reckoned & 1, 2 * carried + (reckoned >> 1 & 1))


def compared_behind(number, one, other):
    """2r + d behind two more bits; number has 2r + d ahead of them, perhaps with six more."""
    if one == other:
        return number // 2 % 3 * 2
    return 3 if one < other else 5


def is_told(comparison, number):
    """Whether two numbers are as comparison tells, all bits read; number has their 2r + d, perhaps with six more."""
    read = number // 2 % 3
    if comparison == "same":
        return read == 0
    if comparison == "unlike":
        return read != 0
    if comparison == "below":
        return read == 1
    # Where the last bits are unlike the one with a 1 there is below 0, though it was read as the greater.
    return read == 1 + number % 2


def ended(term, state, *, bad=()):
    """How state ends behind a bit at least, by inputs that are bad: none, bad or number."""
    numbers = list(state)
    ready = []
    for thing in reversed(things_of(term)):
        parts = [ready.pop() for _ in parts_of(thing)]
        number = numbers.pop() if thing[0] in STATED else 0
        if is_amiss(thing, number, parts):
            return "none"
        ready.append(is_bad(thing, number, parts, bad))
    return "bad" if ready.pop() else "number"


def is_amiss(thing, number, parts):
    """Whether thing began with a number that its end belies; parts has whether each of its parts is bad."""
    if thing[0] == "froze":
        return (number == 1) != parts[0]
    if thing[0] != "choice":
        return False
    holds = parts[0] or parts[1] or is_told(thing[1][0], number)
    return (number >= 6) == holds


def is_bad(thing, number, parts, bad):
    """Whether thing is bad at the end; parts has whether each of its parts is."""
    head = thing[0]
    if head == "look":
        return thing[1] in bad
    if head == "froze":
        return False
    if head == "choice":
        return parts[0] or parts[1] or parts[3 if number >= 6 else 2]
    if head in FLAGGED and is_overrun(thing[1], number):
        return True
    return True in parts


def is_overrun(flags, number):
    """Whether a sum, less or twice is bad by its flags."""
    return "u" in flags and number % 2 == 1 or "s" in flags and number in (1, 2)
