"""What several test files need: things of other kinds, long terms, and terms by chance from a seed."""

import copy
import itertools
import random

from poisonrules.errors import RuleError

A = ("look", "a")
B = ("look", "b")
C = ("const", "c")
D = ("const", "d")


def num(number):
    return ("num", number)


def nested(times, make, thing):
    """thing within so many makes."""
    for _ in range(times):
        thing = make(thing)
    return thing


def odd_things():
    """Things of other kinds, made anew, some as deep or great as anything may be."""
    return [
        None, True, False, 0, 1, -1, 7, 10 ** 39, -(10 ** 39),
        "", " ", "  ", "\n", "a b", "a\n", "A", "07", "-0", "rule", "sum", "~" * 4000, "not " * 999 + "a",
        (), [], {}, ((),), [[]], {"a": 1}, {1: (2, [3])}, (None,), (True, 0), [1, 2], (1, 2), ((0,), 1),
        ("a",), ("look",), ("look", "a", "a"), ["look", "a"], ("look", ["a"]), ("look", None), ("look", 1),
        ("look", {"a": 1}), ({}, "a"), ([], "a"), (None, "a"), (True, "a"), ("const", "sum"), ("num", True),
        ("num", False), ("num", "1"), ("num", (1,)), ("num", 100), ("num", -100), ("num", 10 ** 39),
        ("sum", A, A), ("sum", None, A, A), ("sum", "su", A, A), ("sum", ["u"], A, A), ("and", "", A, A),
        ("not", [A]), ("not", list(A)), ["not", A], ("froze", None), ("choice", ["same", A, A], A, A),
        ("choice", ("unlike", A, A), A, A), ("choice", A, A, A), ("same", A), ["same", C, C],
        nested(39, lambda one: (one,), 0), nested(39, lambda one: [one], 0), nested(39, lambda one: {"a": one}, 0),
        nested(38, lambda one: ("not", one), ()), nested(38, lambda one: ("froze", one), ["look", "a"]),
        tuple(range(20000)), [0] * 19999, {number: number for number in range(9999)},
    ]


def assert_keeps(test, call, thing):
    """call(thing) leaves thing as it was, whether it refuses it or not."""
    ahead = copy.deepcopy(thing)
    try:
        call(thing)
    except RuleError:
        pass
    test.assertEqual(repr(thing), repr(ahead))


ONE_PART = ("not", "froze", "twice")
TWO_PARTS = ("sum", "less", "and", "or", "xor", "times", "quot", "rest", "left", "right")
PLAIN_PARTS = ("sum", "less", "and", "or", "xor")
FLAGGED = ("sum", "less", "twice")


def chance_leaf(chance, inputs, consts):
    kind = chance.randrange(5)
    if kind < 3 and inputs:
        return ("look", chance.choice(inputs))
    if kind == 3 and consts:
        return ("const", chance.choice(consts))
    return num(chance.choice((-99, -2, -1, 0, 1, 2, 3, 5, 99)))


def chance_term(chance, room, inputs=("a", "b"), consts=("c",)):
    """A term of at most so many things."""
    if room < 2 or chance.randrange(6) == 0:
        return chance_leaf(chance, inputs, consts)
    if room >= 5 and chance.randrange(4) == 0:
        parts = [chance_term(chance, (room - 1) // 4, inputs, consts) for _ in range(4)]
        return ("choice", (chance.choice(("same", "below", "under")), *parts[:2]), *parts[2:])
    one = room == 2 or chance.randrange(3) == 0
    head = chance.choice(ONE_PART if one else TWO_PARTS)
    parts = [chance_term(chance, (room - 1) // (1 if one else 2), inputs, consts) for _ in range(1 if one else 2)]
    flags = (chance.choice(("", "u", "s", "us")),) if head in FLAGGED else ()
    return (head, *flags, *parts)


def chance_terms(seed, many, room=12, **names):
    """So many terms by chance, the same for the same seed."""
    chance = random.Random(seed)
    return [chance_term(chance, room, **names) for _ in range(many)]


ANY, BAD, FAULT = -1, -2, -3


def parts(term):
    if term[0] == "choice":
        return [*term[1][1:], *term[2:]]
    return [part for part in term[1:] if isinstance(part, tuple)]


def within(term):
    """term and all terms in it."""
    return [term, *[one for part in parts(term) for one in within(part)]]


def names_of(term, head):
    return sorted({one[1] for one in within(term) if one[0] == head})


def counted(number, width):
    """number as it counts with the flag s."""
    return range(-(2 ** (width - 1)), 2 ** (width - 1))[(number + 2 ** (width - 1)) % 2 ** width]


def compares(r, one, other, width):
    if r in ("same", "unlike"):
        return (one == other) == (r == "same")
    return one < other if r == "below" else counted(one, width) < counted(other, width)


def flagged(head, flags, t, v, width):
    call = {"sum": lambda x, y: x + y, "less": lambda x, y: x - y, "twice": lambda x, y: 2 * x}[head]
    if "u" in flags and call(t, v) not in range(2 ** width):
        return BAD
    if "s" in flags and call(counted(t, width), counted(v, width)) not in range(-(2 ** (width - 1)), 2 ** (width - 1)):
        return BAD
    return call(t, v) % 2 ** width


def by_bits(head, t, v, width):
    bits = {"and": "0001", "or": "0111", "xor": "0110", "not": "1100"}[head]
    return sum(2 ** at for at in range(width) if bits[t // 2 ** at % 2 * 2 + v // 2 ** at % 2] == "1")


def drawn(term, worths, numbers, width, draws):
    """What term comes to where draws has a number for each thing in it that may draw one."""
    if term[0] == "look":
        draw = next(draws)
        return draw if worths[term[1]] == ANY else worths[term[1]]
    if term[0] in ("const", "num"):
        return (numbers[term[1]] if term[0] == "const" else term[1]) % 2 ** width
    draw = next(draws) if term[0] == "froze" else None
    came = [drawn(part, worths, numbers, width, draws) for part in parts(term)]
    if FAULT in came or (term[0] in ("quot", "rest") and came[1] in (0, BAD)):
        return FAULT
    if term[0] == "froze":
        return draw if came[0] == BAD else came[0]
    if BAD in (came[:2] if term[0] == "choice" else came):
        return BAD
    if term[0] == "choice":
        return came[2] if compares(term[1][0], *came[:2], width) else came[3]
    t, v = came[0], came[-1]
    if term[0] in FLAGGED:
        return flagged(term[0], term[1], t, v, width)
    if term[0] in ("left", "right") and v >= width:
        return BAD
    if term[0] in ("times", "quot", "rest", "left", "right"):
        return {"times": t * v, "quot": t // max(v, 1), "rest": t % max(v, 1), "left": t * 2 ** v,
                "right": t // 2 ** v}[term[0]] % 2 ** width
    return by_bits(term[0], t, v, width)


def may_draw(thing, worths):
    return thing[0] == "froze" or thing[0] == "look" and worths[thing[1]] == ANY


def all_drawn(term, worths, numbers, width):
    """All that term may come to, by each way to draw: slow, but just what point 8 says."""
    rows = [range(2 ** width) if may_draw(thing, worths) else (0,)
            for thing in within(term) if thing[0] in ("look", "froze")]
    return {drawn(term, worths, numbers, width, iter(draws)) for draws in itertools.product(*rows)}


def ways_to_draw(term, width):
    """How many ways to draw there are at most."""
    return 2 ** (width * len([1 for thing in within(term) if thing[0] in ("look", "froze")]))


def chance_test(chance, consts):
    """A test by chance."""
    sides = []
    for _ in range(2):
        side = chance_leaf(chance, (), consts)
        if chance.randrange(3) == 0:
            side = chance.choice([("not", side), ("sum", "", side, num(1)), ("and", side, side), ("twice", "", side)])
        sides.append(side)
    return (chance.choice(("same", "unlike", "below", "under")), *sides)


def chance_rules(seed, many, room=5):
    """(old, new, cond) by chance, so many times."""
    chance = random.Random(seed)
    found = []
    while len(found) < many:
        old = chance_term(chance, room)
        if len(within(old)) == 1:
            continue
        consts = names_of(old, "const")
        new = chance_term(chance, room, names_of(old, "look"), consts)
        cond = tuple(chance_test(chance, consts) for _ in range(chance.choice((0, 0, 1, 2)) if consts else 0))
        found.append((old, new, cond))
    return found


def unlet_by_hand(new, old):
    """The outcomes of new that by themselves are not let by old's, as point 9 has it."""
    if FAULT in old:
        return []
    return sorted(one for one in new if one == FAULT or (BAD not in old and one not in old))


def wrong_worths(old, new, cond, width):
    """Each worths by which a rule isn't right, least first, with all outcomes that aren't let, as point 11 has it."""
    consts, inputs = names_of(old, "const"), names_of(old, "look")
    found = {}
    for told in itertools.product(*[range(2 ** width)] * len(consts), *[range(-2, 2 ** width)] * len(inputs)):
        numbers = dict(zip(consts, told))
        worths = dict(zip(inputs, told[len(consts):]))
        if not all(compares(r, *[drawn(side, {}, numbers, width, None) for side in sides], width)
                   for r, *sides in cond):
            continue
        unlet = unlet_by_hand(all_drawn(new, worths, numbers, width), all_drawn(old, worths, numbers, width))
        if unlet:
            found[told] = unlet
    return found


STATED = ("num", "sum", "less", "twice", "froze", "choice")
DRAWN = ("look", "const", "froze")
SERIAL_TWO_PARTS = ("sum", "less", "and", "or", "xor")


def shared_out(chance, room, many):
    """So many numbers from 1 on that together are room."""
    sizes = [1] * many
    for _ in range(room - many):
        sizes[chance.randrange(many)] += 1
    return sizes


def serial_term(chance, room, inputs=("a", "b"), consts=("c",)):
    """A serial term of just so many things."""
    if room == 1:
        return chance_leaf(chance, inputs, consts)
    if room >= 5 and chance.randrange(3) == 0:
        parts = [serial_term(chance, size, inputs, consts) for size in shared_out(chance, room - 1, 4)]
        return ("choice", (chance.choice(("same", "below", "under")), *parts[:2]), *parts[2:])
    one = room == 2 or chance.randrange(2) == 0
    head = chance.choice(ONE_PART if one else SERIAL_TWO_PARTS)
    parts = [serial_term(chance, size, inputs, consts) for size in shared_out(chance, room - 1, 1 if one else 2)]
    flags = (chance.choice(("", "u", "s", "us")),) if head in FLAGGED else ()
    return (head, *flags, *parts)


def serial_rules(seed, many, room=5, tests=True, inputs=2):
    """(old, new, cond) of serial rules by chance, of at most so many things on a side; so many times."""
    chance = random.Random(seed)
    found = []
    for _ in range(many):
        looks = ("a", "b")[:chance.randrange(inputs + 1)]
        consts = ("c", "d")[:chance.randrange(min(2, 3 - len(looks)) + 1)]
        old = serial_term(chance, chance.randrange(2, room + 1), looks, consts)
        names = names_of(old, "const")
        new = serial_term(chance, chance.randrange(1, room + 1), names_of(old, "look"), names)
        if chance.randrange(6) == 0:
            new = old
        many_tests = chance.choice((0, 1, 2, 3)) if tests and names else 0
        found.append((old, new, tuple(chance_test(chance, names) for _ in range(many_tests))))
    return found


def slow_starts(term):
    """All states with which term may begin, as point 12 has it."""
    rows = {"num": None, "sum": (0,), "less": (0,), "twice": (0,), "froze": (0, 1), "choice": (0, 6)}
    return list(itertools.product(*[rows[one[0]] or (one[1],) for one in within(term) if one[0] in STATED]))


def slow_after(term, state, bits):
    """(bit, state behind), as point 12 has it: by a walk down the term that counts numbers and bits."""
    numbers, drawn_bits, behind = list(state), list(bits), {}

    def go(one):
        if one[0] in ("look", "const"):
            return drawn_bits.pop(0)
        own = drawn_bits.pop(0) if one[0] == "froze" else None
        at = len(state) - len(numbers)
        number = numbers.pop(0) if one[0] in STATED else None
        came = [go(part) for part in parts(one)]
        if number is None:
            return by_bits(one[0], came[0], came[-1], 1)
        bit, behind[at] = slow_bit(one[0], number, came, own)
        return bit

    bit = go(term)
    return bit, tuple(behind[at] for at in sorted(behind))


def slow_bit(head, number, came, own):
    if head == "num":
        return number % 2, number // 2
    if head == "froze":
        return own if number == 1 else came[0], number
    if head == "choice":
        read = number // 2 % 3 if came[0] == came[1] else 1 + (came[0] > came[1])
        return came[3 if number >= 6 else 2], number // 6 * 6 + 2 * read + (came[0] != came[1])
    carried = number % 2
    if head == "twice":
        return carried, 2 * carried + came[0]
    reckoned = came[0] + came[1] + carried if head == "sum" else came[0] - came[1] - carried
    return reckoned % 2, 2 * carried + (reckoned not in (0, 1))


def slow_told(r, number):
    """Whether a test or choice with this 2r + d, or 6g + 2r + d, holds."""
    read, last = number // 2 % 3, number % 2
    return {"same": read == 0, "unlike": read != 0, "below": read == 1, "under": (read, last) in ((1, 0), (2, 1))}[r]


def slow_ended(term, state, bad):
    """How a state ends, as point 13 has it."""
    numbers, amiss = list(state), []

    def go(one):
        number = numbers.pop(0) if one[0] in STATED else None
        came = [go(part) for part in parts(one)]
        if one[0] == "look":
            return one[1] in bad
        if one[0] == "froze":
            amiss.append(came[0] != (number == 1))
            return False
        if one[0] == "choice":
            poisoned = came[0] or came[1]
            amiss.append(number >= 6 if poisoned else (number < 6) != slow_told(one[1][0], number))
            return poisoned or came[3 if number >= 6 else 2]
        flags = one[1] if one[0] in FLAGGED else ""
        return any(came) or ("u" in flags and number % 2 == 1) or ("s" in flags and number in (1, 2))

    poisoned = go(term)
    return "none" if any(amiss) else "bad" if poisoned else "number"


def slow_letters(old, new, standing):
    """All letters, as point 14 has it."""
    told = dict(zip(names_of(old, "look"), standing))
    mixed = [one for one in within(new) if one[0] == "froze" or one[0] == "look" and told[one[1]] == 1]
    many = list(standing).count(0) + len(names_of(old, "const")) + len(mixed)
    return list(itertools.product((0, 1), repeat=many))


def letter_parts(old, standing, letter):
    """(dict of numbers' bits, dict of constants' bits, the bits that are mixed in) of a letter."""
    left = list(letter)
    numbers = {name: left.pop(0) for name, told in zip(names_of(old, "look"), standing) if told == 0}
    return numbers, {name: left.pop(0) for name in names_of(old, "const")}, left


def slow_beginnings(old, new, cond):
    tested = sum(((0, *slow_starts(one)[0], *slow_starts(other)[0]) for _, one, other in cond), ())
    olds = tuple((1, *state) for state in slow_starts(old))
    return [(tested + state, olds) for state in slow_starts(new)]


def many_stated(term):
    return len([one for one in within(term) if one[0] in STATED])


def slow_tests_behind(numbers, cond, consts):
    """The numbers of tests behind a bit of each constant; numbers is a list, from which they are taken."""
    found = []
    for _, *sides in cond:
        compared, behind, bits = numbers.pop(0), [], []
        for side in sides:
            state = [numbers.pop(0) for _ in range(many_stated(side))]
            bit, state = slow_after(side, state, [consts[one[1]] for one in within(side) if one[0] == "const"])
            bits.append(bit)
            behind.extend(state)
        read = compared // 2 if bits[0] == bits[1] else 1 + (bits[0] > bits[1])
        found.extend([2 * read + (bits[0] != bits[1]), *behind])
    return tuple(found)


def slow_come_by(old, new, cond, standing, pair, letter):
    """The pair behind a letter, as point 14 has it."""
    told = dict(zip(names_of(old, "look"), standing))
    numbers, consts, mixed = letter_parts(old, standing, letter)
    left = list(pair[0])
    tested = slow_tests_behind(left, cond, consts)

    def bits_of(term, wild):
        for one in within(term):
            if one[0] == "froze" or one[0] == "look" and told[one[1]] == 1:
                yield wild(one)
            elif one[0] in ("look", "const"):
                yield (numbers.get(one[1], 0),) if one[0] == "look" else (consts[one[1]],)

    new_bits = [row[0] for row in bits_of(new, lambda _: (mixed.pop(0),))]
    new_bit, state = slow_after(new, left, new_bits)
    found = set()
    for mark, *old_state in pair[1]:
        for ways in itertools.product(*bits_of(old, lambda _: (0, 1))):
            bit, behind = slow_after(old, old_state, ways)
            found.add((int(mark == 1 and bit == new_bit), *behind))
    return tested + state, tuple(sorted(found))


def slow_stands(old, new, cond, standing, pair):
    """Whether a pair stands, as point 14 has it."""
    bad = [name for name, told in zip(names_of(old, "look"), standing) if told == 2]
    numbers = list(pair[0])
    for r, one, other in cond:
        if not slow_told(r, numbers.pop(0)):
            return True
        del numbers[:many_stated(one) + many_stated(other)]
    end = slow_ended(new, numbers, bad)
    ends = [(mark, slow_ended(old, state, bad)) for mark, *state in pair[1]]
    return end == "none" or any(one == "bad" for _, one in ends) or (end == "number" and (1, "number") in ends)


def all_standings(old):
    return list(itertools.product((0, 1, 2), repeat=len(names_of(old, "look"))))


def slow_layers(old, new, cond, standing, limit):
    """Layer by layer {pair: its least letters} of all pairs behind a letter at least; None where they pass limit."""
    letters = slow_letters(old, new, standing)
    found, layers = set(), []
    layer = {pair: () for pair in slow_beginnings(old, new, cond)}
    while layer:
        behind = {}
        for pair, ahead in layer.items():
            for letter in letters:
                one = slow_come_by(old, new, cond, standing, pair, letter)
                if one not in found:
                    behind[one] = min(behind.get(one, (*ahead, letter)), (*ahead, letter))
        found |= set(behind)
        if len(found) > limit:
            return None
        layers.append(behind)
        layer = behind
    return layers[:-1]


def slow_decide(old, new, cond, limit=60):
    """(what decide tells, the most pairs that come by some standing), as point 15 has it; None where they pass limit."""
    against, paper, most = [], [], 0
    for standing in all_standings(old):
        layers = slow_layers(old, new, cond, standing, limit)
        if layers is None:
            return None
        most = max(most, sum(len(layer) for layer in layers))
        against += [(len(letters), standing, letters) for layer in layers for pair, letters in layer.items()
                    if not slow_stands(old, new, cond, standing, pair)]
        paper.append(tuple(sorted(pair for layer in layers for pair in layer)))
    return (("wrong", *min(against)[1:]) if against else ("right", tuple(paper))), most


def slow_is_kept(old, new, cond, standing, kept):
    """Whether well-formed pairs are a kept set, as point 15 has it."""
    if not all(slow_stands(old, new, cond, standing, pair) for pair in kept):
        return False
    for pair in [*slow_beginnings(old, new, cond), *kept]:
        for letter in slow_letters(old, new, standing):
            news, come = slow_come_by(old, new, cond, standing, pair, letter)
            if not any(one == news and set(olds) <= set(come) for one, olds in kept):
                return False
    return True


def slow_against(old, new, cond, standing, letters):
    """Whether well-formed letters lead to a pair that does not stand."""
    pairs = slow_beginnings(old, new, cond)
    for letter in letters:
        pairs = [slow_come_by(old, new, cond, standing, pair, letter) for pair in pairs]
    return not all(slow_stands(old, new, cond, standing, pair) for pair in pairs)


def put_at(thing, path, other):
    """thing, of tuples, with other at a path of places."""
    if not path:
        return other
    return thing[:path[0]] + (put_at(thing[path[0]], path[1:], other),) + thing[path[0] + 1:]


def paths_of(thing, path=()):
    """All paths in a thing of tuples, that of the whole too."""
    yield path
    if isinstance(thing, tuple):
        for at, one in enumerate(thing):
            yield from paths_of(one, (*path, at))


def at_path(thing, path):
    for at in path:
        thing = thing[at]
    return thing


def spoilt(thing, chance, many):
    """Things of other kinds that are like thing but in one place, which must not count as the same."""
    paths = list(paths_of(thing))
    for path in [*paths[:12], *chance.sample(paths, min(many, len(paths)))]:
        one = at_path(thing, path)
        others = [None, {}, [], "", "0"]
        if isinstance(one, bool):
            others += [int(one), [one], (one,)]
        elif isinstance(one, int):
            others += [[one], (one,), str(one), one + 100, -one - 100, {one: one}] + ([bool(one)] if one in (0, 1) else [])
        if isinstance(one, tuple):
            others += [list(one), (one,), one + (None,), dict(enumerate(one))]
        for other in others:
            yield put_at(thing, path, other)


def const_bits(old, standing, letter):
    """The constants' bits of a letter, as the constants rise."""
    return tuple(letter_parts(old, standing, letter)[1].values())


def slow_ways(old, new, standing, pair, bits):
    """All pairs behind one, without tests, by the letters that have these bits of constants."""
    return {slow_come_by(old, new, (), standing, pair, letter) for letter in slow_letters(old, new, standing)
            if const_bits(old, standing, letter) == bits}


def all_bits(old):
    """All tuples of bits of the constants, rising."""
    return list(itertools.product((0, 1), repeat=len(names_of(old, "const"))))


def slow_sets(old, new, limit):
    """How many unlike sets of (standing, pair) come by bits of constants, as point 17 has it; None past limit."""
    known, found = {}, set()
    waiting = [frozenset((standing, pair) for standing in all_standings(old)
                         for pair in slow_beginnings(old, new, ()))]
    while waiting:
        one = waiting.pop()
        for bits in all_bits(old):
            behind = set()
            for standing, pair in one:
                if (standing, pair, bits) not in known:
                    known[standing, pair, bits] = slow_ways(old, new, standing, pair, bits)
                behind |= {(standing, other) for other in known[standing, pair, bits]}
            if frozenset(behind) not in found:
                found.add(frozenset(behind))
                waiting.append(frozenset(behind))
        if len(found) > limit:
            return None
    return len(found)


def slow_weakest_holds(old, new, machine, paper):
    """Whether a well-formed machine and paper are as point 17 has them."""
    return slow_keeps_hold(old, new, machine, paper[0]) and slow_shows_hold(old, new, machine, paper[1])


def slow_keeps_hold(old, new, machine, keeps):
    firsts = [(0, standing, *pair) for standing in all_standings(old) for pair in slow_beginnings(old, new, ())]
    for room, standing, *pair in [*firsts, *keeps]:
        if machine[room][0] and not slow_stands(old, new, (), standing, pair):
            return False
        for at, bits in enumerate(all_bits(old)):
            for news, come in slow_ways(old, new, standing, pair, bits):
                if not any(one[:3] == (machine[room][1][at], standing, news) and set(one[3]) <= set(come)
                           for one in keeps):
                    return False
    return True


def slow_shows_hold(old, new, machine, shows):
    refuted = {room for room, standing, *pair in shows if not slow_stands(old, new, (), standing, pair)}
    if not all(let or room in refuted for room, (let, _) in enumerate(machine) if room > 0):
        return False
    for room, standing, news, olds in shows:
        for before, (_, nexts) in enumerate(machine):
            for bits, behind in zip(all_bits(old), nexts):
                if behind != room:
                    continue
                froms = slow_beginnings(old, new, ()) if before == 0 else [
                    one[2:] for one in shows if one[:2] == (before, standing)]
                if not any(one == news and set(come) <= set(olds) for pair in froms
                           for one, come in slow_ways(old, new, standing, pair, bits)):
                    return False
    return True


def plain_lets(machine, numbers, width):
    """Whether a machine lets numbers of constants: read as rows of bits."""
    room = 0
    for place in range(width):
        at = int("0" + "".join(str(number // 2 ** place % 2) for number in numbers), 2)
        room = machine[room][1][at]
    return machine[room][0]


def plain_least(machine):
    """The least machine, by telling rooms apart round by round."""
    rooms = [0]
    for room in rooms:
        rooms += sorted(set(machine[room][1]) - set(rooms))
    kinds = {room: (room == 0, machine[room][0]) for room in rooms}
    while True:
        finer = {room: (kinds[room], *[kinds[behind] for behind in machine[room][1]]) for room in rooms}
        numbers = {kind: at for at, kind in enumerate(dict.fromkeys(finer.values()))}
        finer = {room: numbers[finer[room]] for room in rooms}
        if len(set(finer.values())) == len(set(kinds.values())):
            break
        kinds = finer
    order = [0]
    for room in order:
        for behind in machine[room][1]:
            if kinds[behind] not in [kinds[one] for one in order]:
                order.append(behind)
    numbers = {kinds[room]: at for at, room in enumerate(order)}
    return tuple((machine[room][0], tuple(numbers[kinds[behind]] for behind in machine[room][1])) for room in order)


OPERAND_COUNTS = {"choice": 4, "not": 1, "froze": 1, "twice": 1, "copy": 1}
LINE_HEADS = (*ONE_PART, *TWO_PARTS, "choice", "froze", "copy", "sum", "less", "quot")


def chance_operand(chance, inputs, many_lines):
    kind = chance.randrange(6)
    if kind < 2 and inputs:
        return ("look", chance.choice(inputs))
    if kind < 5 and many_lines:
        # Mostly the last lines, so that there are lines behind lines.
        return ("line", many_lines - 1 - chance.randrange(min(many_lines, chance.choice((2, 3, 12)))))
    return num(chance.choice((-99, -2, -1, 0, 1, 2, 3, 5, 99)))


def chance_line(chance, inputs, many_lines, heads):
    head = chance.choice(heads)
    operands = [chance_operand(chance, inputs, many_lines) for _ in range(OPERAND_COUNTS.get(head, 2))]
    if head == "choice":
        return (head, (chance.choice(("same", "below", "under")), *operands[:2]), *operands[2:])
    flags = (chance.choice(("", "u", "s", "us")),) if head in FLAGGED else ()
    return (head, *flags, *operands)


def program_size(inputs, lines, outs, width):
    """What point 2 bounds by twelve: width times inputs, looks at them and frozes."""
    looks = [one for line in [*lines, ("outs", *outs)] for one in parts(line) if one[0] == "look"]
    return width * (len(inputs) + len(looks) + len([line for line in lines if line[0] == "froze"]))


def chance_program(chance, most=12, widths=(1, 2, 2, 3, 4), most_lines=6, heads=LINE_HEADS):
    """(inputs, lines, outs, width) of a program by chance, whose size is at most so great."""
    while True:
        width = chance.choice(widths)
        inputs = ("a", "b", "x")[:chance.choice((0, 1, 1, 2, 2, 3))]
        lines = []
        for at in range(chance.randrange(most_lines + 1)):
            lines.append(chance_line(chance, inputs, at, heads))
        outs = tuple(chance_operand(chance, inputs, len(lines)) for _ in range(chance.randrange(1, 4)))
        if program_size(inputs, lines, outs, width) <= most:
            return inputs, tuple(lines), outs, width


def run_once(program, worths, draws):
    """What a program comes to where draws has a number for each look at an ANY input and each froze, as they stand."""
    inputs, lines, outs, width = program
    told, came = dict(zip(inputs, worths)), []

    def seen(operand):
        if operand[0] == "line":
            return came[operand[1]]
        return drawn(operand, told, {}, width, draws)

    for line in lines:
        operands = [seen(one) for one in parts(line)]
        if line[0] == "copy":
            came.append(operands[0])
        elif line[0] == "froze":
            draw = next(draws)
            came.append(draw if operands[0] == BAD else operands[0])
        else:
            names = [("look", str(at)) for at in range(len(operands))]
            rest = iter([None] * len(names))
            came.append(drawn(with_operands(line, names), dict(zip("0123", operands)), {}, width, rest))
        if came[-1] == FAULT:
            return (FAULT,)
    return tuple(seen(one) for one in outs)


def with_operands(line, operands):
    if line[0] == "choice":
        return (line[0], (line[1][0], *operands[:2]), *operands[2:])
    return (*[one for one in line if not isinstance(one, tuple)], *operands)


def all_runs(program, worths):
    """All outcomes of a program, by each way to draw: slow, but just what point 20 says."""
    inputs, lines, outs, width = program
    told, rows = dict(zip(inputs, worths)), []
    for line in [*lines, ("outs", *outs)]:
        for one in parts(line):
            if one[0] == "look":
                rows.append(range(2 ** width) if told[one[1]] == ANY else (0,))
        if line[0] == "froze":
            rows.append(range(2 ** width))
    return tuple(sorted({run_once(program, worths, iter(draws)) for draws in itertools.product(*rows)}))


def all_worths(inputs, width):
    """All tuples of worths of inputs, rising."""
    return list(itertools.product(range(-2, 2 ** width), repeat=len(inputs)))


def lets_outcome(outcome, old):
    """Whether an outcome by itself is let by old, as point 20 has it."""
    if (FAULT,) in old:
        return True
    return outcome != (FAULT,) and any(
        all(let in (BAD, worth) for let, worth in zip(one, outcome)) for one in old)


def slow_refined(one, other):
    """The least worths with the least outcome by which other isn't let by one, or None."""
    for worths in all_worths(one[0], one[3]):
        old = all_runs(one, worths)
        unlet = [outcome for outcome in all_runs(other, worths) if not lets_outcome(outcome, old)]
        if unlet:
            return worths, min(unlet)
    return None


class Node:
    """A line of a program that knows what it looks at, not by numbers."""

    def __init__(self, line, nodes):
        self.line = line
        self.operands = [nodes[one[1]] if one[0] == "line" else one for one in parts(line)]


def looks_at(nodes, outs, node):
    """How often a node is looked at."""
    return [one is node for other in nodes for one in other.operands].count(True) + [one is node for one in outs].count(True)


def met(term, operand, nodes, outs, told, inner):
    """Whether a part of old is an operand, as point 22 has it; what looks and consts are, and other lines, are kept."""
    if term[0] == "look":
        return told.setdefault(term, operand) == operand
    if term[0] == "const":
        return isinstance(operand, tuple) and operand[0] == "num" and told.setdefault(term, operand) == operand
    if term[0] == "num":
        return operand == term
    if isinstance(operand, tuple) or looks_at(nodes, outs, operand) != 1:
        return False
    inner.append(operand)
    return met_line(term, operand, nodes, outs, told, inner)


def head_words(line):
    if line[0] == "choice":
        return line[0], line[1][0]
    return line[:2] if line[0] in FLAGGED else line[:1]


def met_line(term, node, nodes, outs, told, inner):
    return head_words(term) == head_words(node.line) and all(
        met(part, operand, nodes, outs, told, inner) for part, operand in zip(parts(term), node.operands))


def nodes_of(fields):
    nodes = []
    for line in fields[1]:
        nodes.append(Node(line, nodes))
    return nodes, [nodes[one[1]] if one[0] == "line" else one for one in fields[2]]


def slow_fit(fields, old, cond, at):
    """(nodes, outs, what looks and consts are, other nodes of old) where a rule fits at a line, or None."""
    nodes, outs = nodes_of(fields)
    told, inner = {}, []
    if not met_line(old, nodes[at], nodes, outs, told, inner):
        return None
    numbers = {name: told["const", name][1] for name in names_of(old, "const")}
    width = fields[3]
    for r, one, other in cond:
        if not compares(r, drawn(one, {}, numbers, width, None), drawn(other, {}, numbers, width, None), width):
            return None
    return nodes, outs, told, inner


def slow_fits(fields, old, cond):
    return tuple(at for at in range(len(fields[1])) if slow_fit(fields, old, cond, at))


def slow_stepped(fields, old, new, cond, at):
    """A program stepped by a rule that fits at a line, as point 22 has it."""
    nodes, outs, told, inner = slow_fit(fields, old, cond, at)
    root, added = nodes[at], []

    def laid(term, node):
        node.line, node.operands = term, []
        for part in parts(term):
            if part[0] in ("look", "const", "num"):
                node.operands.append(told.get(part, part))
            else:
                node.operands.append(laid(part, Node(("not", num(0)), [])))
        added.append(node)
        return node

    if new[0] in ("look", "const", "num"):
        root.line, root.operands = ("copy", A), [told.get(new, new)]
        added.append(root)
    else:
        laid(new, root)
    left = []
    for node in nodes:
        left += added if node is root else [] if node in inner else [node]
    return numbered(fields, left, outs)


def numbered(fields, nodes, outs):
    """The fields of a program of these nodes."""
    def shown(operand):
        return operand if isinstance(operand, tuple) else ("line", [node is operand for node in nodes].index(True))
    lines = tuple(with_operands(node.line, [shown(one) for one in node.operands]) for node in nodes)
    return fields[0], lines, tuple(shown(one) for one in outs), fields[3]


def planted(chance, term, inputs, lines, told):
    """The operand at which stands what term comes to, by lines that are added."""
    if term[0] == "look":
        operand = ("line", chance.randrange(min(len(lines), 2))) if lines and chance.randrange(2) else None
        return told.setdefault(term, operand or chance_operand(chance, inputs, 0))
    if term[0] == "const":
        return told.setdefault(term, num(chance.choice((-1, 0, 1, 2, 3))))
    if term[0] == "num":
        return term
    operands = [planted(chance, part, inputs, lines, told) for part in parts(term)]
    lines.append(with_operands(term, operands))
    return ("line", len(lines) - 1)


def planted_program(chance, old, most=12):
    """(inputs, lines, outs, width) of a program by chance that has a rule's old among its lines, or None."""
    inputs, lines = ("a", "b")[:chance.choice((1, 2))], []
    for _ in range(chance.randrange(3)):
        lines.append(chance_line(chance, inputs, len(lines), LINE_HEADS))
    out = planted(chance, old, inputs, lines, {})
    for _ in range(chance.randrange(3)):
        lines.append(chance_line(chance, inputs, len(lines), LINE_HEADS))
    outs = (out, chance_operand(chance, inputs, len(lines)))
    width = chance.choice((1, 2, 2, 3))
    return (inputs, tuple(lines), outs, width) if program_size(inputs, lines, outs, width) <= most else None
