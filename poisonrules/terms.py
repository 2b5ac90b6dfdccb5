"""Names, terms and tests: what they are, and what stands in a term."""

from poisonrules.wholes import is_whole

LETTERS = "abcdefghijklmnopqrstuvwxyz"
KEPT = (
    "and", "below", "choice", "copy", "froze", "if", "in", "left", "less", "not", "or", "out",
    "quot", "rest", "right", "rule", "same", "sum", "times", "to", "twice", "under", "unlike",
    "width", "xor",
)
LEAVES = ("look", "const", "num")
FLAGGED = ("sum", "less", "twice")
FLAGS = ("", "u", "s", "us")
COMPARISONS = ("same", "below", "under")
TEST_COMPARISONS = ("same", "unlike", "below", "under")
TEST_HEADS = ("const", "num", "and", "or", "xor", "not")

PART_COUNTS = {
    "look": 0, "const": 0, "num": 0,
    "sum": 2, "less": 2, "twice": 1,
    "and": 2, "or": 2, "xor": 2, "not": 1,
    "times": 2, "quot": 2, "rest": 2, "left": 2, "right": 2,
    "froze": 1, "choice": 4,
}


def is_name(thing):
    """Whether thing is a name."""
    if not isinstance(thing, str) or not 1 <= len(thing) <= 8:
        return False
    return thing not in KEPT and all([sign in LETTERS for sign in thing])


def is_term(thing):
    """Whether thing is a term, however great."""
    # A list of what waits, no calls within calls: so no depth is too great.
    waiting = [thing]
    while waiting:
        one = waiting.pop()
        if not has_shape(one):
            return False
        waiting.extend(parts_of(one))
    return True


def has_shape(thing):
    """Whether thing is a term, if its parts are terms."""
    if not isinstance(thing, tuple) or len(thing) == 0:
        return False
    head = thing[0]
    if not isinstance(head, str) or head not in PART_COUNTS:
        return False
    if head in LEAVES:
        return len(thing) == 2 and is_leaf_word(head, thing[1])
    if head == "choice":
        return len(thing) == 4 and is_triple(thing[1], COMPARISONS)
    if head in FLAGGED:
        return len(thing) == 2 + PART_COUNTS[head] and thing[1] in FLAGS
    return len(thing) == 1 + PART_COUNTS[head]


def is_leaf_word(head, thing):
    """Whether thing may stand behind head in a look, const or num."""
    if head == "num":
        return is_whole(thing) and -99 <= thing <= 99
    return is_name(thing)


def is_triple(thing, comparisons):
    """Whether thing is one of comparisons with two things behind it."""
    return isinstance(thing, tuple) and len(thing) == 3 and thing[0] in comparisons


def parts_of(term):
    """The terms right in term, as written."""
    head = term[0]
    if head in LEAVES:
        return ()
    if head == "choice":
        return term[1][1:] + term[2:]
    if head in FLAGGED:
        return term[2:]
    return term[1:]


def things_of(term):
    """All terms in term, itself first, as written, each as often as it stands."""
    found = []
    waiting = [term]
    while waiting:
        one = waiting.pop()
        found.append(one)
        head = one[0]
        if head in LEAVES:
            continue
        if head == "choice":
            waiting.extend((one[3], one[2], one[1][2], one[1][1]))
        else:
            # What stands behind the first word, or behind the flags, from the last part on.
            waiting.extend(one[:1 if head in FLAGGED else 0:-1])
    return tuple(found)


def inputs_of(term):
    """The names of term's inputs, rising."""
    return words_among(things_of(term), "look")


def consts_of(term):
    """The names of term's constants, rising."""
    return words_among(things_of(term), "const")


def words_among(things, head):
    """What stands behind head among things, rising, each once."""
    return tuple(sorted({thing[1] for thing in things if thing[0] == head}))


def is_test(thing):
    """Whether thing is a test, however great."""
    if not is_triple(thing, TEST_COMPARISONS):
        return False
    return all([is_term(side) and is_plain(side) for side in thing[1:]])


def is_plain(term):
    """Whether term is one of constants that may stand in a test."""
    return all([is_plain_thing(thing) for thing in things_of(term)])


def is_plain_thing(thing):
    """Whether thing, whatever its parts are, may stand in a test."""
    if thing[0] in FLAGGED:
        return thing[1] == ""
    return thing[0] in TEST_HEADS
