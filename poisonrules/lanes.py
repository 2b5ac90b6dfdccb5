"""Serial things bit by bit, in many lanes at once: a lane is a case of the bits of looks, consts and frozes.

A mask has a one for each lane in which a bit is 1, at the foot of the lane's field. A field has the bit to which the
whole comes, and above it a digit of four bits for each number of the state behind, the first one lowest; the digits of
nums are 0, as what they leave is the same in all lanes.
"""

from poisonrules.terms import things_of

DIGIT = 4
LAST_DIGIT = 15
# The things that have a number in a state, tests of a rule too, and those that have a bit of their own.
NUMBERED = ("num", "sum", "less", "twice", "froze", "choice", "test")
DRAWN = ("look", "const", "froze")
# The bits of a thing's number that tell on what comes next.
TELLING = {"num": -1, "sum": 1, "less": 1, "twice": 1, "froze": 1, "choice": -2, "test": -2}


def lane_masks(many, size):
    """(a mask for each of so many bits, the mask of all lanes), where a lane is each case of these bits."""
    masks = []
    ones = 1
    for _ in range(many):
        masks = [mask | mask << size for mask in masks]
        masks.append(ones << size)
        ones |= ones << size
        size *= 2
    return (masks, ones)


def test_things(rule):
    """The things of rule's tests, as written, each test ahead of what it compares."""
    found = []
    for test in rule.cond:
        found.append(("test",))
        found.extend(things_of(test[1]) + things_of(test[2]))
    return found


def numbered_things(things):
    """All of things that have a number in a state."""
    return [thing for thing in things if thing[0] in NUMBERED]


class Stepper:
    """Things, as written, that go on bit by bit."""

    def __init__(self, things):
        self.last_first = things[::-1]
        self.drawn = [thing for thing in things if thing[0] in DRAWN]
        self.numbered = numbered_things(things)
        # Where a field has the digit of each number, but of nums.
        self.digits = []
        for at, thing in enumerate(self.numbered):
            self.digits.append(None if thing[0] == "num" else 1 + DIGIT * at)

    def step(self, bits, numbers):
        """(bit, numbers behind) by a bit for each look, const and froze."""
        field = fields_behind(self.last_first, bits, 1, numbers)
        return (field & 1, self.behind(numbers, field))

    def behind(self, numbers, field):
        """The numbers behind by those ahead and a field."""
        return tuple([number >> 1 if at is None else field >> at & LAST_DIGIT
                      for number, at in zip(numbers, self.digits)])


def fields_behind(things, drawn, ones, numbers):
    """The fields of all lanes, by things, the last one first, and the numbers of a state.

    drawn has a mask for each look, const and froze, as written; ones is the mask of all lanes.
    """
    left = list(drawn)
    ready = []
    found = 0
    at = len(numbers)
    for thing in things:
        head = thing[0]
        if head == "look" or head == "const":
            ready.append(left.pop())
        elif head in NUMBERED:
            at -= 1
            mask, digits = numbered(head, numbers[at], ready, left, ones)
            ready.append(mask)
            found |= digits << DIGIT * at + 1
        elif head == "not":
            ready.append(ones ^ ready.pop())
        elif head == "and":
            ready.append(ready.pop() & ready.pop())
        elif head == "or":
            ready.append(ready.pop() | ready.pop())
        else:
            ready.append(ready.pop() ^ ready.pop())
    # Of a rule's tests there may be none.
    return found | ready.pop() if len(ready) > 0 else found


def numbered(head, number, ready, left, ones):
    """(mask of the bit, digits of the number behind) of a thing that has a number; its parts are the last of ready."""
    if head == "num":
        return (ones if number & 1 == 1 else 0, 0)
    if head == "choice" or head == "test":
        return compared(head, number, ready, ones)
    one = ready.pop()
    if head == "froze":
        own = left.pop()
        return (own, ones) if number == 1 else (one, 0)
    carried = ones if number & 1 == 1 else 0
    if head == "twice":
        return (carried, one + 2 * carried)
    other = ready.pop()
    if head == "less":
        one ^= ones
        borrowed = one | other if carried != 0 else one & other
        return (one ^ other ^ carried ^ ones, borrowed + 2 * carried)
    behind = one | other if carried != 0 else one & other
    return (one ^ other ^ carried, behind + 2 * carried)


def compared(head, number, ready, ones):
    """As numbered, of a choice, which has 6g + 2r + d, or a test, which has 2r + d and comes to no bit."""
    one = ready.pop()
    other = ready.pop()
    unlike = one ^ other
    below = unlike & other
    chosen = number // 6 * 6
    # Where the bits are alike r stays, and d is 0; else r is 1 or 2 by these bits, whatever it was.
    digits = (ones ^ unlike) * (number & -2) + below * (chosen + 3) + (unlike ^ below) * (chosen + 5)
    if head == "test":
        return (0, digits)
    held = ready.pop()
    unheld = ready.pop()
    return (held if chosen == 0 else unheld, digits)
