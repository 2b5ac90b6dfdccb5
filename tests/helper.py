"""What several test files need: things of other kinds, long terms, and terms by chance from a seed."""

import copy
import random

from poisonrules.errors import RuleError

A = ("look", "a")
B = ("look", "b")
C = ("const", "c")
D = ("const", "d")


def num(number):
    return ("num", number)


def nested(times, make, thing):
    """thing within so many makes."""
    for _ in range(times):
        thing = make(thing)
    return thing


def odd_things():
    """Things of other kinds, made anew, some as deep or great as anything may be."""
    return [
        None, True, False, 0, 1, -1, 7, 10 ** 39, -(10 ** 39),
        "", " ", "  ", "\n", "a b", "a\n", "A", "07", "-0", "rule", "sum", "~" * 4000, "not " * 999 + "a",
        (), [], {}, ((),), [[]], {"a": 1}, {1: (2, [3])}, (None,), (True, 0), [1, 2], (1, 2), ((0,), 1),
        ("a",), ("look",), ("look", "a", "a"), ["look", "a"], ("look", ["a"]), ("look", None), ("look", 1),
        ("look", {"a": 1}), ({}, "a"), ([], "a"), (None, "a"), (True, "a"), ("const", "sum"), ("num", True),
        ("num", False), ("num", "1"), ("num", (1,)), ("num", 100), ("num", -100), ("num", 10 ** 39),
        ("sum", A, A), ("sum", None, A, A), ("sum", "su", A, A), ("sum", ["u"], A, A), ("and", "", A, A),
        ("not", [A]), ("not", list(A)), ["not", A], ("froze", None), ("choice", ["same", A, A], A, A),
        ("choice", ("unlike", A, A), A, A), ("choice", A, A, A), ("same", A), ["same", C, C],
        nested(39, lambda one: (one,), 0), nested(39, lambda one: [one], 0), nested(39, lambda one: {"a": one}, 0),
        nested(38, lambda one: ("not", one), ()), nested(38, lambda one: ("froze", one), ["look", "a"]),
        tuple(range(20000)), [0] * 19999, {number: number for number in range(9999)},
    ]


def assert_keeps(test, call, thing):
    """call(thing) leaves thing as it was, whether it refuses it or not."""
    ahead = copy.deepcopy(thing)
    try:
        call(thing)
    except RuleError:
        pass
    test.assertEqual(repr(thing), repr(ahead))


ONE_PART = ("not", "froze", "twice")
TWO_PARTS = ("sum", "less", "and", "or", "xor", "times", "quot", "rest", "left", "right")
PLAIN_PARTS = ("sum", "less", "and", "or", "xor")
FLAGGED = ("sum", "less", "twice")


def chance_leaf(chance, inputs, consts):
    kind = chance.randrange(5)
    if kind < 3 and inputs:
        return ("look", chance.choice(inputs))
    if kind == 3 and consts:
        return ("const", chance.choice(consts))
    return num(chance.choice((-99, -2, -1, 0, 1, 2, 3, 5, 99)))


def chance_term(chance, room, inputs=("a", "b"), consts=("c",)):
    """A term of at most so many things."""
    if room < 2 or chance.randrange(6) == 0:
        return chance_leaf(chance, inputs, consts)
    if room >= 5 and chance.randrange(4) == 0:
        parts = [chance_term(chance, (room - 1) // 4, inputs, consts) for _ in range(4)]
        return ("choice", (chance.choice(("same", "below", "under")), *parts[:2]), *parts[2:])
    one = room == 2 or chance.randrange(3) == 0
    head = chance.choice(ONE_PART if one else TWO_PARTS)
    parts = [chance_term(chance, (room - 1) // (1 if one else 2), inputs, consts) for _ in range(1 if one else 2)]
    flags = (chance.choice(("", "u", "s", "us")),) if head in FLAGGED else ()
    return (head, *flags, *parts)


def chance_terms(seed, many, room=12, **names):
    """So many terms by chance, the same for the same seed."""
    chance = random.Random(seed)
    return [chance_term(chance, room, **names) for _ in range(many)]
