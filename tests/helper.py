"""What several test files need: things of other kinds, long terms, and terms by chance from a seed."""

import copy
import itertools
import random

from poisonrules.errors import RuleError

A = ("look", "a")
B = ("look", "b")
C = ("const", "c")
D = ("const", "d")


def num(number):
    return ("num", number)


def nested(times, make, thing):
    """thing within so many makes."""
    for _ in range(times):
        thing = make(thing)
    return thing


def odd_things():
    """Things of other kinds, made anew, some as deep or great as anything may be."""
    return [
        None, True, False, 0, 1, -1, 7, 10 ** 39, -(10 ** 39),
        "", " ", "  ", "\n", "a b", "a\n", "A", "07", "-0", "rule", "sum", "~" * 4000, "not " * 999 + "a",
        (), [], {}, ((),), [[]], {"a": 1}, {1: (2, [3])}, (None,), (True, 0), [1, 2], (1, 2), ((0,), 1),
        ("a",), ("look",), ("look", "a", "a"), ["look", "a"], ("look", ["a"]), ("look", None), ("look", 1),
        ("look", {"a": 1}), ({}, "a"), ([], "a"), (None, "a"), (True, "a"), ("const", "sum"), ("num", True),
        ("num", False), ("num", "1"), ("num", (1,)), ("num", 100), ("num", -100), ("num", 10 ** 39),
        ("sum", A, A), ("sum", None, A, A), ("sum", "su", A, A), ("sum", ["u"], A, A), ("and", "", A, A),
        ("not", [A]), ("not", list(A)), ["not", A], ("froze", None), ("choice", ["same", A, A], A, A),
        ("choice", ("unlike", A, A), A, A), ("choice", A, A, A), ("same", A), ["same", C, C],
        nested(39, lambda one: (one,), 0), nested(39, lambda one: [one], 0), nested(39, lambda one: {"a": one}, 0),
        nested(38, lambda one: ("not", one), ()), nested(38, lambda one: ("froze", one), ["look", "a"]),
        tuple(range(20000)), [0] * 19999, {number: number for number in range(9999)},
    ]


def assert_keeps(test, call, thing):
    """call(thing) leaves thing as it was, whether it refuses it or not."""
    ahead = copy.deepcopy(thing)
    try:
        call(thing)
    except RuleError:
        pass
    test.assertEqual(repr(thing), repr(ahead))


ONE_PART = ("not", "froze", "twice")
TWO_PARTS = ("sum", "less", "and", "or", "xor", "times", "quot", "rest", "left", "right")
PLAIN_PARTS = ("sum", "less", "and", "or", "xor")
FLAGGED = ("sum", "less", "twice")


def chance_leaf(chance, inputs, consts):
    kind = chance.randrange(5)
    if kind < 3 and inputs:
        return ("look", chance.choice(inputs))
    if kind == 3 and consts:
        return ("const", chance.choice(consts))
    return num(chance.choice((-99, -2, -1, 0, 1, 2, 3, 5, 99)))


def chance_term(chance, room, inputs=("a", "b"), consts=("c",)):
    """A term of at most so many things."""
    if room < 2 or chance.randrange(6) == 0:
        return chance_leaf(chance, inputs, consts)
    if room >= 5 and chance.randrange(4) == 0:
        parts = [chance_term(chance, (room - 1) // 4, inputs, consts) for _ in range(4)]
        return ("choice", (chance.choice(("same", "below", "under")), *parts[:2]), *parts[2:])
    one = room == 2 or chance.randrange(3) == 0
    head = chance.choice(ONE_PART if one else TWO_PARTS)
    parts = [chance_term(chance, (room - 1) // (1 if one else 2), inputs, consts) for _ in range(1 if one else 2)]
    flags = (chance.choice(("", "u", "s", "us")),) if head in FLAGGED else ()
    return (head, *flags, *parts)


def chance_terms(seed, many, room=12, **names):
    """So many terms by chance, the same for the same seed."""
    chance = random.Random(seed)
    return [chance_term(chance, room, **names) for _ in range(many)]


ANY, BAD, FAULT = -1, -2, -3


def parts(term):
    if term[0] == "choice":
        return [*term[1][1:], *term[2:]]
    return [part for part in term[1:] if isinstance(part, tuple)]


def within(term):
    """term and all terms in it."""
    return [term, *[one for part in parts(term) for one in within(part)]]


def names_of(term, head):
    return sorted({one[1] for one in within(term) if one[0] == head})


def counted(number, width):
    """number as it counts with the flag s."""
    return range(-(2 ** (width - 1)), 2 ** (width - 1))[(number + 2 ** (width - 1)) % 2 ** width]


def compares(r, one, other, width):
    if r in ("same", "unlike"):
        return (one == other) == (r == "same")
    return one < other if r == "below" else counted(one, width) < counted(other, width)


def flagged(head, flags, t, v, width):
    call = {"sum": lambda x, y: x + y, "less": lambda x, y: x - y, "twice": lambda x, y: 2 * x}[head]
    if "u" in flags and call(t, v) not in range(2 ** width):
        return BAD
    if "s" in flags and call(counted(t, width), counted(v, width)) not in range(-(2 ** (width - 1)), 2 ** (width - 1)):
        return BAD
    return call(t, v) % 2 ** width


def by_bits(head, t, v, width):
    bits = {"and": "0001", "or": "0111", "xor": "0110", "not": "1100"}[head]
    return sum(2 ** at for at in range(width) if bits[t // 2 ** at % 2 * 2 + v // 2 ** at % 2] == "1")


def drawn(term, worths, numbers, width, draws):
    """What term comes to where draws has a number for each thing in it that may draw one."""
    if term[0] == "look":
        draw = next(draws)
        return draw if worths[term[1]] == ANY else worths[term[1]]
    if term[0] in ("const", "num"):
        return (numbers[term[1]] if term[0] == "const" else term[1]) % 2 ** width
    draw = next(draws) if term[0] == "froze" else None
    came = [drawn(part, worths, numbers, width, draws) for part in parts(term)]
    if FAULT in came or (term[0] in ("quot", "rest") and came[1] in (0, BAD)):
        return FAULT
    if term[0] == "froze":
        return draw if came[0] == BAD else came[0]
    if BAD in (came[:2] if term[0] == "choice" else came):
        return BAD
    if term[0] == "choice":
        return came[2] if compares(term[1][0], *came[:2], width) else came[3]
    t, v = came[0], came[-1]
    if term[0] in FLAGGED:
        return flagged(term[0], term[1], t, v, width)
    if term[0] in ("left", "right") and v >= width:
        return BAD
    if term[0] in ("times", "quot", "rest", "left", "right"):
        return {"times": t * v, "quot": t // max(v, 1), "rest": t % max(v, 1), "left": t * 2 ** v,
                "right": t // 2 ** v}[term[0]] % 2 ** width
    return by_bits(term[0], t, v, width)


def may_draw(thing, worths):
    return thing[0] == "froze" or thing[0] == "look" and worths[thing[1]] == ANY


def all_drawn(term, worths, numbers, width):
    """All that term may come to, by each way to draw: slow, but just what point 8 says."""
    rows = [range(2 ** width) if may_draw(thing, worths) else (0,)
            for thing in within(term) if thing[0] in ("look", "froze")]
    return {drawn(term, worths, numbers, width, iter(draws)) for draws in itertools.product(*rows)}


def ways_to_draw(term, width):
    """How many ways to draw there are at most."""
    return 2 ** (width * len([1 for thing in within(term) if thing[0] in ("look", "froze")]))


def chance_test(chance, consts):
    """A test by chance."""
    sides = []
    for _ in range(2):
        side = chance_leaf(chance, (), consts)
        if chance.randrange(3) == 0:
            side = chance.choice([("not", side), ("sum", "", side, num(1)), ("and", side, side), ("twice", "", side)])
        sides.append(side)
    return (chance.choice(("same", "unlike", "below", "under")), *sides)


def chance_rules(seed, many, room=5):
    """(old, new, cond) by chance, so many times."""
    chance = random.Random(seed)
    found = []
    while len(found) < many:
        old = chance_term(chance, room)
        if len(within(old)) == 1:
            continue
        consts = names_of(old, "const")
        new = chance_term(chance, room, names_of(old, "look"), consts)
        cond = tuple(chance_test(chance, consts) for _ in range(chance.choice((0, 0, 1, 2)) if consts else 0))
        found.append((old, new, cond))
    return found


def unlet_by_hand(new, old):
    """The outcomes of new that by themselves are not let by old's, as point 9 has it."""
    if FAULT in old:
        return []
    return sorted(one for one in new if one == FAULT or (BAD not in old and one not in old))


def wrong_worths(old, new, cond, width):
    """Each worths by which a rule isn't right, least first, with all outcomes that aren't let, as point 11 has it."""
    consts, inputs = names_of(old, "const"), names_of(old, "look")
    found = {}
    for told in itertools.product(*[range(2 ** width)] * len(consts), *[range(-2, 2 ** width)] * len(inputs)):
        numbers = dict(zip(consts, told))
        worths = dict(zip(inputs, told[len(consts):]))
        if not all(compares(r, *[drawn(side, {}, numbers, width, None) for side in sides], width)
                   for r, *sides in cond):
            continue
        unlet = unlet_by_hand(all_drawn(new, worths, numbers, width), all_drawn(old, worths, numbers, width))
        if unlet:
            found[told] = unlet
    return found
