"""What a term may come to, and what is let (points 2, 8 and 9)."""

import inspect
import itertools
import unittest

from poisonrules import outcomes as module
from poisonrules.outcomes import is_let, outcomes
from poisonrules.termtexts import read_term

from helper import (A, ANY, B, BAD, C, FAULT, all_drawn, assert_keeps, chance_terms, names_of, nested, num,
                    ways_to_draw)

# By hand: a row of figures for each number of the first part, in it one for each of the second; B is BAD, F FAULT.
TABLES = {
    1: {
        "sum": "01 10", "sum.u": "01 1B", "sum.s": "01 1B", "sum.us": "01 1B",
        "less": "01 10", "less.u": "0B 10", "less.s": "0B 10", "less.us": "0B 10",
        "twice": "00", "twice.u": "0B", "twice.s": "0B", "twice.us": "0B",
        "and": "00 01", "or": "01 11", "xor": "01 10", "not": "10", "times": "00 01",
        "quot": "F0 F1", "rest": "F0 F0", "left": "0B 1B", "right": "0B 1B", "froze": "01",
    },
    2: {
        "sum": "0123 1230 2301 3012", "sum.u": "0123 123B 23BB 3BBB",
        "sum.s": "0123 1B30 23BB 30B2", "sum.us": "0123 1B3B 23BB 3BBB",
        "less": "0321 1032 2103 3210", "less.u": "0BBB 10BB 210B 3210",
        "less.s": "03B1 10BB 2B03 3210", "less.us": "0BBB 10BB 2B0B 3210",
        "twice": "0202", "twice.u": "02BB", "twice.s": "0BB2", "twice.us": "0BBB",
        "and": "0000 0101 0022 0123", "or": "0123 1133 2323 3333", "xor": "0123 1032 2301 3210", "not": "3210",
        "times": "0000 0123 0202 0321", "quot": "F000 F100 F210 F311", "rest": "F000 F011 F002 F010",
        "left": "00BB 12BB 20BB 32BB", "right": "00BB 10BB 21BB 31BB", "froze": "0123",
    },
}
# 1 where the first is as told to the second.
COMPARED = {
    1: {"same": "10 01", "below": "01 00", "under": "00 10"},
    2: {"same": "1000 0100 0010 0001", "below": "0111 0011 0001 0000", "under": "0100 0000 1101 1100"},
}


def figure(sign):
    return {"B": BAD, "F": FAULT}.get(sign) if sign in "BF" else int(sign)


def told_by(word, table, came, width):
    """By a table, all that word may come to of what its parts came to."""
    if word in ("quot", "rest") and came[1] == BAD:
        return {FAULT}
    if word in ("quot", "rest") and came[1] == 0:
        return {FAULT}
    if BAD in came:
        return set(range(2 ** width)) if word == "froze" else {BAD}
    rows = table.split(" ")
    return {figure(rows[0][came[0]] if len(came) == 1 else rows[came[0]][came[1]])}


def ways(worth, width):
    """What a look may come to."""
    return range(2 ** width) if worth == ANY else (worth,)


class ByHand(unittest.TestCase):
    def test_each_word_by_all_worths(self):
        for width, tables in TABLES.items():
            for word, table in tables.items():
                names = ("a", "b") if " " in table else ("a",)
                term = read_term(" ".join([word, *names]))
                for worths in itertools.product(range(-2, 2 ** width), repeat=len(names)):
                    told = set()
                    for came in itertools.product(*[ways(worth, width) for worth in worths]):
                        told |= told_by(word, table, came, width)
                    self.assertEqual(outcomes(term, worths, width=width), tuple(sorted(told)), (word, worths, width))

    def test_each_comparison_by_all_worths(self):
        for width, tables in COMPARED.items():
            for word, table in tables.items():
                term = read_term(f"choice {word} a b 1 0")
                for worths in itertools.product(range(-2, 2 ** width), repeat=2):
                    told = set()
                    for one, other in itertools.product(*[ways(worth, width) for worth in worths]):
                        told.add(BAD if BAD in (one, other) else int(table.split(" ")[one][other]))
                    self.assertEqual(outcomes(term, worths, width=width), tuple(sorted(told)), (word, worths, width))

    def test_leaves(self):
        for width in (1, 2, 3, 4):
            for number in range(2 ** width):
                self.assertEqual(outcomes(A, (number,), width=width), (number,))
                self.assertEqual(outcomes(C, (), consts=(number,), width=width), (number,))
            self.assertEqual(outcomes(A, (ANY,), width=width), tuple(range(2 ** width)))
            self.assertEqual(outcomes(A, (BAD,), width=width), (BAD,))
            for number in range(-99, 100):
                self.assertEqual(outcomes(num(number), (), width=width), (number % 2 ** width,))


class AtMoreWidths(unittest.TestCase):
    def check(self, text, worths, width, told, consts=()):
        self.assertEqual(outcomes(read_term(text), worths, consts=consts, width=width), told, (text, worths, width))

    def test_sums_that_run_over(self):
        self.check("sum a b", (15, 1), 4, (0,))
        self.check("sum.u a b", (15, 1), 4, (BAD,))
        self.check("sum.s a b", (15, 1), 4, (0,))
        self.check("sum.s a b", (7, 1), 4, (BAD,))
        self.check("sum.u a b", (7, 1), 4, (8,))
        self.check("sum.us a b", (7, 1), 4, (BAD,))
        self.check("sum.us a b", (15, 1), 4, (BAD,))
        self.check("sum.us a b", (6, 1), 4, (7,))
        self.check("sum.s a b", (8, 8), 4, (BAD,))
        self.check("sum.s a b", (8, 15), 4, (BAD,))
        self.check("sum.s a b", (12, 12), 4, (8,))
        self.check("less.u a b", (3, 4), 3, (BAD,))
        self.check("less.s a b", (3, 4), 3, (BAD,))
        self.check("less.s a b", (4, 3), 3, (BAD,))
        self.check("less.u a b", (4, 3), 3, (1,))
        self.check("less.s a b", (0, 7), 3, (1,))
        self.check("twice.s a", (4,), 4, (BAD,))
        self.check("twice.u a", (4,), 4, (8,))
        self.check("twice.s a", (12,), 4, (8,))
        self.check("twice.us a", (12,), 4, (BAD,))
        self.check("twice.us a", (3,), 4, (6,))

    def test_sums_of_any_run_over_at_times(self):
        self.check("sum.u a 1", (ANY,), 3, (BAD, 1, 2, 3, 4, 5, 6, 7))
        self.check("sum.s a 1", (ANY,), 3, (BAD, 0, 1, 2, 3, 5, 6, 7))

    def test_moves_by_the_width_and_farther(self):
        for width in (1, 2, 3, 4):
            for head in ("left", "right"):
                for by in range(2 ** width):
                    one = 1 if head == "left" else 2 ** (width - 1)
                    moved = one * 2 ** by if head == "left" else one // 2 ** by
                    self.check(f"{head} a b", (one, by), width, (moved if by < width else BAD,))
        self.check("left a b", (7, 2), 3, (4,))
        self.check("right a b", (7, 2), 3, (1,))
        self.check("left 1 a", (ANY,), 3, (BAD, 1, 2, 4))

    def test_quotients(self):
        self.check("quot a b", (7, 2), 3, (3,))
        self.check("rest a b", (7, 2), 3, (1,))
        for head in ("quot", "rest"):
            self.check(f"{head} a b", (7, 0), 3, (FAULT,))
            self.check(f"{head} a b", (7, BAD), 3, (FAULT,))
            self.check(f"{head} a b", (BAD, BAD), 3, (FAULT,))
            self.check(f"{head} a b", (BAD, 0), 3, (FAULT,))
            self.check(f"{head} a b", (BAD, 2), 3, (BAD,))
            self.check(f"{head} a b", (BAD, ANY), 3, (FAULT, BAD))
        self.check("quot a b", (6, ANY), 3, (FAULT, 0, 1, 2, 3, 6))
        self.check("rest a b", (6, ANY), 3, (FAULT, 0, 1, 2, 6))
        self.check("quot a 4", (3,), 2, (FAULT,))

    def test_a_fault_goes_through_all(self):
        for text in ("sum quot a 0 b", "and b quot a 0", "not rest a 0", "froze quot a 0", "twice.us quot a 0",
                     "left b quot a 0", "quot quot a 0 b", "quot b quot a 0", "choice same quot a 0 b b b",
                     "choice below b quot a 0 b b", "choice same 1 1 quot a 0 b", "choice same 1 1 b quot a 0",
                     "choice same 1 0 quot a 0 b", "choice same b 0 quot a 0 b", "froze froze quot b 0"):
            names = len(set(text) & {"a", "b"})
            for worths in ((1, BAD), (BAD, BAD), (ANY, 1), (0, ANY)):
                self.check(text, worths[:names], 2, (FAULT,))

    def test_frozes(self):
        self.check("froze a", (BAD,), 2, (0, 1, 2, 3))
        self.check("froze a", (ANY,), 2, (0, 1, 2, 3))
        self.check("froze a", (2,), 2, (2,))
        self.check("froze froze a", (BAD,), 2, (0, 1, 2, 3))
        self.check("froze froze a", (1,), 2, (1,))
        self.check("twice froze a", (BAD,), 3, (0, 2, 4, 6))
        self.check("xor froze a froze a", (BAD,), 2, (0, 1, 2, 3))
        self.check("froze sum.u a 1", (3,), 2, (0, 1, 2, 3))
        self.check("froze and a 1", (ANY,), 3, (0, 1))
        self.check("froze quot 1 a", (ANY,), 1, (FAULT, 1))

    def test_each_look_at_any_is_its_own(self):
        self.check("xor a a", (ANY,), 2, (0, 1, 2, 3))
        self.check("less a a", (ANY,), 2, (0, 1, 2, 3))
        self.check("sum a a", (ANY,), 3, tuple(range(8)))
        self.check("twice a", (ANY,), 3, (0, 2, 4, 6))
        self.check("choice same a a 1 0", (ANY,), 2, (0, 1))
        self.check("choice same a a 1 0", (2,), 2, (1,))

    def test_choices_whose_test_may_be_bad(self):
        self.check("choice same a 0 1 2", (BAD,), 2, (BAD,))
        self.check("choice same 0 a 1 2", (BAD,), 2, (BAD,))
        self.check("choice same sum.u a 1 0 1 2", (ANY,), 2, (BAD, 2))
        self.check("choice below sum.u a 1 2 1 2", (ANY,), 2, (BAD, 1, 2))

    def test_choices_whose_test_may_fault(self):
        self.check("choice same quot 1 a 1 2 3", (ANY,), 2, (FAULT, 2, 3))
        self.check("choice same quot 1 a 1 2 3", (BAD,), 2, (FAULT,))

    def test_choices_whose_other_side_is_bad_or_faults(self):
        self.check("choice same 1 1 2 a", (BAD,), 2, (2,))
        self.check("choice same 1 0 a 2", (BAD,), 2, (2,))
        self.check("choice same 1 1 a 2", (BAD,), 2, (BAD,))
        self.check("choice same 1 1 2 quot 1 a", (0,), 2, (FAULT,))
        self.check("choice same 1 1 2 quot 1 a", (ANY,), 2, (FAULT, 2))
        self.check("choice same a b 2 a", (1, BAD), 2, (BAD,))
        self.check("choice under b a b a", (BAD, 1), 2, (BAD,))
        self.check("choice same b 0 1 a", (BAD, ANY), 2, (BAD, 1))

    def test_constants_as_they_rise(self):
        self.check("less #d #c", (), 3, (4,), consts=(1, 5))
        self.check("sum sum #c #b a", (1,), 3, (0,), consts=(3, 4))
        self.check("less b a", (2, 5), 3, (3,))

    def test_an_input_called_like_a_constant(self):
        self.check("less c #c", (5,), 3, (3,), consts=(2,))


class ByDrawing(unittest.TestCase):
    def test_terms_by_chance(self):
        asked = 0
        for at, term in enumerate(chance_terms("outcomes", 400, room=9)):
            width = 1 + at % 4
            inputs, consts = names_of(term, "look"), names_of(term, "const")
            if ways_to_draw(term, width) > 5000:
                continue
            for by, worths in enumerate(itertools.product(*[range(-2, min(2 ** width, 3))] * len(inputs))):
                numbers = tuple((by + place) % 2 ** width for place in range(len(consts)))
                told = all_drawn(term, dict(zip(inputs, worths)), dict(zip(consts, numbers)), width)
                self.assertEqual(outcomes(term, worths, consts=numbers, width=width), tuple(sorted(told)),
                                 (term, worths, numbers, width))
                asked += 1
        self.assertGreater(asked, 1000)


class Greater(unittest.TestCase):
    def test_deep_and_wide_ones(self):
        deep = read_term("not " * 99 + "a")
        self.assertEqual(outcomes(deep, (1,), width=4), (14,))
        self.assertEqual(outcomes(nested(3000, lambda one: ("not", one), A), (1,), width=4), (1,))
        choices = nested(24, lambda one: ("choice", ("below", one, A), one if one == A else B, A), A)
        self.assertEqual(outcomes(choices, (ANY, ANY), width=4), tuple(range(16)))


class Let(unittest.TestCase):
    def test_by_hand(self):
        for new, old, told in [
                ((1,), (1,), True), ((1,), (1, 2), True), ((1, 2), (1,), False), ((0, 1), (0, 1, 2, 3), True),
                ((BAD,), (BAD,), True), ((0, 1), (BAD,), True), ((BAD, 3), (BAD, 1), True), ((BAD,), (0, 1), False),
                ((BAD, 1), (1,), False), ((FAULT,), (FAULT,), True), ((0,), (FAULT,), True), ((BAD,), (FAULT, 1), True),
                ((FAULT, BAD, 1), (FAULT,), True), ((FAULT,), (BAD,), False), ((FAULT, 1), (BAD, 1), False),
                ((FAULT,), (0, 1, 2, 3), False), ((3,), (0, 1, 2), False)]:
            self.assertIs(is_let(new, old), told, (new, old))

    def test_all_at_width_one(self):
        every = [one for many in range(1, 5) for one in itertools.combinations((FAULT, BAD, 0, 1), many)]
        for new, old in itertools.product(every, repeat=2):
            told = FAULT in old or FAULT not in new and (BAD in old or set(new) <= set(old))
            self.assertIs(is_let(new, old), told, (new, old))


class Calls(unittest.TestCase):
    def test_signatures(self):
        self.assertEqual(str(inspect.signature(outcomes)), "(term, worths, *, consts=(), width=2)")
        self.assertEqual(str(inspect.signature(is_let)), "(new, old)")
        for call in (outcomes, is_let):
            self.assertEqual(call.__module__, module.__name__)

    def test_by_places_and_names(self):
        self.assertEqual(outcomes(width=3, worths=(7,), consts=(2,), term=("sum", "", A, C)), (1,))
        self.assertEqual(outcomes(("sum", "", A, C), (7,), width=3, consts=(2,)), (1,))
        self.assertIs(is_let(old=(1,), new=(BAD,)), False)
        with self.assertRaises(TypeError):
            outcomes(C, (), (1,))

    def test_left_out(self):
        self.assertEqual(outcomes(("sum", "", A, num(1)), (3,)), (0,))
        self.assertEqual(outcomes(C, (), consts=(3,)), (3,))
        self.assertEqual(outcomes(num(-1), ()), (3,))

    def test_kinds(self):
        for term in (read_term("choice same a b quot a b sum.u a b"), read_term("choice below a b a b")):
            for worth in outcomes(term, (ANY, ANY)):
                self.assertIs(worth.__class__, int)

    def test_what_is_handed_in_stays(self):
        for term in chance_terms("keeps", 40):
            given = {"term": term, "worths": (ANY,) * len(names_of(term, "look")),
                     "consts": (1,) * len(names_of(term, "const"))}
            assert_keeps(self, lambda one: outcomes(**one), given)

    def test_the_same_again(self):
        asked = [(term, (ANY,) * len(names_of(term, "look")), (1,) * len(names_of(term, "const")))
                 for term in chance_terms("same", 60)]
        told = [outcomes(term, worths, consts=consts) for term, worths, consts in asked]
        again = [outcomes(term, worths, consts=consts) for term, worths, consts in reversed(asked)]
        self.assertEqual(again[::-1], told)
