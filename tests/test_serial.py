"""Terms bit by bit (points 12 and 13)."""

import inspect
import itertools
import random
import unittest

from poisonrules import serial
from poisonrules.outcomes import outcomes
from poisonrules.serial import after, ended, is_serial, starts
from poisonrules.termtexts import read_term

from helper import (
    ANY, BAD, STATED, names_of, nested, serial_term, slow_after, slow_ended, slow_starts, within)


def t(text):
    return read_term(text)


def chance_states(chance, term, many):
    """States from anywhere that things may be in."""
    for _ in range(many):
        state = []
        for one in within(term):
            if one[0] == "num":
                state.append(one[1] >> chance.randrange(9))
            elif one[0] in STATED:
                state.append(chance.randrange({"froze": 2, "choice": 12}.get(one[0], 4)))
        yield tuple(state)


class Serial(unittest.TestCase):
    def test_each_word(self):
        for text in ("a", "#c", "7", "sum a b", "less.us a 1", "twice.u a", "and a b", "or a b", "xor a b", "not a",
                     "froze a", "choice same a b 0 1"):
            self.assertIs(is_serial(t(text)), True, text)
            for head in ("times", "quot", "rest", "left", "right"):
                self.assertIs(is_serial(t(f"{head} {text} 1")), False, text)
                self.assertIs(is_serial(t(f"not {head} 1 {text}")), False, text)

    def test_in_any_part_of_a_choice(self):
        for at in range(4):
            sides = ["a"] * 4
            sides[at] = "times a a"
            self.assertIs(is_serial(t(f"choice below {' '.join(sides)}")), False, at)

    def test_deep_ones(self):
        self.assertIs(is_serial(nested(3000, lambda one: ("not", one), ("num", 1))), True)
        self.assertIs(is_serial(nested(3000, lambda one: ("not", one), t("left 1 1"))), False)


class Starts(unittest.TestCase):
    def check(self, text, *states):
        self.assertEqual(starts(t(text)), states, text)

    def test_by_hand(self):
        self.check("a", ())
        self.check("and not a #c", ())
        self.check("-7", (-7,))
        self.check("sum a b", (0,))
        self.check("less.us sum a b twice c", (0, 0, 0))
        self.check("froze a", (0,), (1,))
        self.check("froze froze a", (0, 0), (0, 1), (1, 0), (1, 1))
        self.check("choice same a b c d", (0,), (6,))
        self.check("sum froze 5 a", (0, 0, 5), (0, 1, 5))
        self.check("choice under sum a b -3 froze a 9", (0, 0, -3, 0, 9), (0, 0, -3, 1, 9), (6, 0, -3, 0, 9),
                   (6, 0, -3, 1, 9))
        self.check("froze choice same a 0 0 1", (0, 0, 0, 0, 1), (0, 6, 0, 0, 1), (1, 0, 0, 0, 1), (1, 6, 0, 0, 1))

    def test_rising_each_once(self):
        chance = random.Random("starts")
        for _ in range(200):
            term = serial_term(chance, chance.randrange(1, 9))
            told = starts(term)
            self.assertEqual(list(told), sorted(set(told)))
            self.assertEqual(list(told), slow_starts(term))

    def test_the_most_frozes(self):
        self.assertEqual(len(starts(t("froze " * 11 + "a"))), 2048)


class After(unittest.TestCase):
    def check(self, text, state, bits, told):
        self.assertEqual(after(t(text), state, bits), told, (text, state, bits))

    def test_leaves(self):
        for bit in (0, 1):
            self.check("a", (), (bit,), (bit, ()))
            self.check("#c", (), (bit,), (bit, ()))

    def test_a_num_halved_to_the_end(self):
        for number in (0, 1, 2, 5, 6, 99, -1, -2, -3, -98, -99):
            state = (number,)
            for place in range(9):
                self.assertEqual(state, (number >> place,))
                bit, state = after(("num", number), state, ())
                self.assertEqual(bit, number >> place & 1)
        self.check("-99", (-99,), (), (1, (-50,)))
        self.check("-99", (-1,), (), (1, (-1,)))
        self.check("99", (0,), (), (0, (0,)))

    def test_bits(self):
        for one, other in itertools.product((0, 1), repeat=2):
            self.check("and a b", (), (one, other), (one & other, ()))
            self.check("or a b", (), (one, other), (one | other, ()))
            self.check("xor a b", (), (one, other), (one ^ other, ()))
            self.check("not a", (), (one,), (1 - one, ()))
            self.check("not not a", (), (one,), (one, ()))
            self.check("not not not a", (), (one,), (1 - one, ()))

    def test_sums_carry(self):
        # (state, bits) -> (bit, state): the carry goes to a, and the new one to c.
        carried = {(0, 0, 0): (0, 0), (0, 0, 1): (1, 0), (0, 1, 0): (1, 0), (0, 1, 1): (0, 1), (1, 0, 0): (1, 2),
                   (1, 0, 1): (0, 3), (1, 1, 0): (0, 3), (1, 1, 1): (1, 3)}
        for ahead in (0, 2):
            for (carry, one, other), (bit, behind) in carried.items():
                self.check("sum a b", (ahead + carry,), (one, other), (bit, (behind,)))
                self.check("sum.us a b", (ahead + carry,), (one, other), (bit, (behind,)))

    def test_lesses_borrow(self):
        borrowed = {(0, 0, 0): (0, 0), (0, 0, 1): (1, 1), (0, 1, 0): (1, 0), (0, 1, 1): (0, 0), (1, 0, 0): (1, 3),
                    (1, 0, 1): (0, 3), (1, 1, 0): (0, 2), (1, 1, 1): (1, 3)}
        for ahead in (0, 2):
            for (borrow, one, other), (bit, behind) in borrowed.items():
                self.check("less a b", (ahead + borrow,), (one, other), (bit, (behind,)))
                self.check("less.s a b", (ahead + borrow,), (one, other), (bit, (behind,)))

    def test_twice_comes_to_its_last_bit(self):
        for ahead, last, bit in itertools.product((0, 2), (0, 1), (0, 1)):
            self.check("twice a", (ahead + last,), (bit,), (last, (2 * last + bit,)))

    def test_frozes(self):
        for own, bit in itertools.product((0, 1), repeat=2):
            self.check("froze a", (0,), (own, bit), (bit, (0,)))
            self.check("froze a", (1,), (own, bit), (own, (1,)))
            # The state of what is frozen goes on, whatever the froze has.
            self.check("froze twice a", (1, 1), (own, bit), (own, (1, 2 + bit)))

    def test_choices_read_and_choose(self):
        for g, read, last in itertools.product((0, 6), (0, 1, 2), (0, 1)):
            state = (g + 2 * read + last,)
            chosen = 1 if g == 6 else 0
            for one, other in itertools.product((0, 1), repeat=2):
                behind = read if one == other else 1 if one < other else 2
                unlike = 1 if one != other else 0
                for r in ("same", "below", "under"):
                    self.check(f"choice {r} a b c d", state, (one, other, 0, 1), (chosen, (g + 2 * behind + unlike,)))
                    self.check(f"choice {r} a b c d", state, (one, other, 1, 0),
                               (1 - chosen, (g + 2 * behind + unlike,)))

    def test_bits_stand_as_written(self):
        self.check("choice same froze a #c b froze 1", (0, 0, 1, 1), (1, 0, 0, 1, 1), (1, (0, 0, 1, 0)))
        self.check("less sum a #c froze b", (0, 0, 0), (1, 0, 1, 0), (1, (0, 0, 0)))

    def test_from_anywhere_against_a_slow_walk(self):
        chance = random.Random("after")
        for _ in range(400):
            term = serial_term(chance, chance.randrange(1, 13))
            many = len([one for one in within(term) if one[0] in ("look", "const", "froze")])
            for state in chance_states(chance, term, 4):
                bits = tuple(chance.randrange(2) for _ in range(many))
                self.assertEqual(after(term, state, bits), slow_after(term, state, bits), (term, state, bits))


class Ended(unittest.TestCase):
    def check(self, text, told, bad=()):
        """told has one letter for each state: n, b, - for none."""
        term = t(text)
        states = list(itertools.product(*[range({"froze": 2, "choice": 12}.get(one[0], 4)) if one[0] != "num"
                                          else (one[1],) for one in within(term) if one[0] in STATED]))
        words = {"number": "n", "bad": "b", "none": "-"}
        self.assertEqual("".join(words[ended(term, state, bad=bad)] for state in states), told, text)

    def test_looks(self):
        self.check("a", "n")
        self.check("a", "b", ("a",))
        self.check("a", "n", ("b",))
        self.check("#a", "n", ("a",))
        self.check("5", "n", ("a",))
        for text in ("and a b", "and b a", "or a b", "xor b a", "not a", "not not a"):
            self.check(text, "b", ("a", "z"))
            self.check(text, "n")

    def test_flags_at_the_last_bit(self):
        for head in ("sum{} a b", "less{} a b", "twice{} a"):
            self.check(head.format(""), "nnnn")
            self.check(head.format(".u"), "nbnb")
            self.check(head.format(".s"), "nbbn")
            self.check(head.format(".us"), "nbbb")
            for flags in ("", ".u", ".s", ".us"):
                self.check(head.format(flags), "bbbb", ("a",))

    def test_frozes(self):
        self.check("froze a", "n-")
        self.check("froze a", "-n", ("a",))
        self.check("froze froze a", "n---")
        self.check("froze froze a", "-n--", ("a",))
        self.check("froze twice.u a", "n-n--n-n")
        self.check("sum froze a b", "b-b-b-b-", ("b",))

    def test_choices(self):
        # r, d from 0, 0 to 2, 1 with g 0, then with g 1.
        self.check("choice same a b c d", "nn----" + "--nnnn")
        self.check("choice below a b c d", "--nn--" + "nn--nn")
        self.check("choice under a b c d", "--n--n" + "nn-nn-")

    def test_a_bad_side_is_bad_where_it_is_chosen(self):
        self.check("choice same a b c d", "bb----" + "--nnnn", ("c",))
        self.check("choice same a b c d", "nn----" + "--bbbb", ("d",))
        self.check("choice under a b c d", "--b--b" + "bb-bb-", ("c", "d"))

    def test_what_is_compared_is_bad(self):
        for r in ("same", "below", "under"):
            for bad in (("a",), ("b",), ("a", "b"), ("a", "c", "d")):
                self.check(f"choice {r} a b c d", "bbbbbb" + "------", bad)

    def test_none_goes_ahead_of_bad(self):
        self.check("and froze a b", "b-", ("b",))
        self.check("and b froze a", "-b", ("a", "b"))
        self.check("choice same b b c froze a", "b-" * 6 + "-" * 12, ("b",))
        # Also where what is amiss is not chosen.
        self.check("choice same c d b froze a", "b-" * 2 + "-" * 8 + "-" * 4 + "n-" * 4, ("b",))

    def test_against_a_slow_walk(self):
        chance = random.Random("ended")
        seen = {}
        for _ in range(600):
            term = serial_term(chance, chance.randrange(1, 13))
            for state in chance_states(chance, term, 4):
                bad = tuple(name for name in ("a", "b") if chance.randrange(3) == 0)
                told = ended(term, state, bad=bad)
                self.assertEqual(told, slow_ended(term, state, bad), (term, state, bad))
                seen[told] = seen.get(told, 0) + 1
        self.assertGreater(min(seen["none"], seen["bad"], seen["number"]), 100)


def outcomes_bit_by_bit(term, worths, numbers, width):
    """All that term comes to, by all starts and bits, at a width."""
    looked = dict(zip(names_of(term, "look"), worths))
    consts = dict(zip(names_of(term, "const"), numbers))
    bad = tuple(name for name in looked if looked[name] == BAD)
    reached = {(0, state) for state in starts(term)}
    for place in range(width):
        rows = []
        for one in within(term):
            if one[0] == "froze" or one[0] == "look" and looked[one[1]] == ANY:
                rows.append((0, 1))
            elif one[0] in ("look", "const"):
                worth = looked[one[1]] if one[0] == "look" else consts[one[1]]
                rows.append((0 if worth == BAD else worth >> place & 1,))
        reached = {(number + (bit << place), behind) for number, state in reached
                   for bit, behind in (after(term, state, bits) for bits in itertools.product(*rows))}
    ends = {(number, ended(term, state, bad=bad)) for number, state in reached}
    return {BAD if end == "bad" else number for number, end in ends if end != "none"}


class AgainstOutcomes(unittest.TestCase):
    def test_each_word_at_each_width(self):
        texts = ["and a b", "or a b", "xor a b", "not a", "froze a", "5", "-99", "#c", "and #c -3", "froze froze a",
                 "choice same a b froze a 1", "choice below a b 2 -1", "choice under a b b a", "froze sum.u a 1"]
        texts += [f"{head}{flags} {parts}" for head, parts in (("sum", "a b"), ("less", "a b"), ("twice", "a"))
                  for flags in ("", ".u", ".s", ".us")]
        for text in texts:
            term = t(text)
            for width in (1, 2, 3, 4):
                rows = [(BAD, ANY, *range(2 ** width))] * len(names_of(term, "look"))
                if width > 2 and "froze" not in text:
                    rows = [(BAD, *range(2 ** width))] * len(names_of(term, "look"))
                for worths in itertools.islice(itertools.product(*rows), 0, None, 1 if width < 4 else 3):
                    told = outcomes(term, worths, consts=(3 % 2 ** width,) * len(names_of(term, "const")), width=width)
                    came = outcomes_bit_by_bit(term, worths, (3,), width)
                    self.assertEqual(tuple(sorted(came)), told, (text, worths, width))

    def test_terms_by_chance(self):
        chance = random.Random("bits")
        for at in range(500):
            width = 1 + at % 4
            term = serial_term(chance, chance.randrange(2, 9 - width))
            worths = tuple(chance.choice((BAD, ANY, *range(2 ** width))) for _ in names_of(term, "look"))
            numbers = tuple(chance.randrange(2 ** width) for _ in names_of(term, "const"))
            told = outcomes(term, worths, consts=numbers, width=width)
            came = outcomes_bit_by_bit(term, worths, numbers, width)
            self.assertEqual(tuple(sorted(came)), told, (term, worths, numbers, width))


class Calls(unittest.TestCase):
    def test_by_places_and_names(self):
        for call, told in ((is_serial, "(term)"), (starts, "(term)"), (after, "(term, state, bits)"),
                           (ended, "(term, state, *, bad=())")):
            self.assertEqual(str(inspect.signature(call)), told)
            self.assertEqual(call.__module__, serial.__name__)
        term = t("sum a froze #c")
        self.assertEqual(after(bits=(1, 0, 1), state=(1, 0), term=term), after(term, (1, 0), (1, 0, 1)))
        self.assertEqual(ended(state=(1, 0), bad=("a",), term=term), "bad")
        self.assertEqual(starts(term=term), starts(term))
        with self.assertRaises(TypeError):
            ended(term, (1, 0), ("a",))

    def test_kinds(self):
        told = [starts(t("froze 1")), after(t("sum froze a 5"), (0, 1, 5), (0, 1))]
        self.assertEqual(repr(told), "[((0, 1), (1, 1)), (1, (0, 1, 2))]")
        self.assertEqual(repr(after(t("choice same a b c d"), (6,), (1, 0, 1, 1))), "(1, (11,))")

    def test_the_same_again(self):
        chance = random.Random("again")
        terms = [serial_term(chance, 6) for _ in range(30)]
        told = [(starts(term), ended(term, starts(term)[-1])) for term in terms]
        again = [(starts(term), ended(term, starts(term)[-1])) for term in reversed(terms)]
        self.assertEqual(again[::-1], told)
