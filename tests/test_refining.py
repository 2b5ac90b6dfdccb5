"""Programs that let another one's outcomes (point 20)."""

import inspect
import itertools
import random
import unittest

from poisonrules import refining
from poisonrules.programs import Program
from poisonrules.progtexts import read_program
from poisonrules.refining import refined, refined_holds

from helper import (
    ANY, BAD, FAULT, LINE_HEADS, all_runs, all_worths, assert_keeps, chance_line, chance_operand, chance_program,
    lets_outcome, odd_things, program_size, slow_refined, spoilt)


def p(inputs, lines, outs, width=2):
    return read_program("\n".join([f"width {width}", f"in {inputs}".strip(), *lines, f"out {outs}"]))


def program(fields):
    return Program(*fields[:3], width=fields[3])


def chance_other(chance, fields):
    """A program like one, but in one place."""
    inputs, lines, outs, width = fields
    while True:
        lines_too, kind = list(lines), chance.randrange(4)
        if kind < 2 and lines:
            at = chance.randrange(len(lines))
            lines_too[at] = chance_line(chance, inputs, at, LINE_HEADS)
        elif kind == 2:
            outs = tuple(chance_operand(chance, inputs, len(lines)) for _ in outs)
        else:
            lines_too.append(chance_line(chance, inputs, len(lines), LINE_HEADS))
        if program_size(inputs, lines_too, outs, width) <= 12:
            return inputs, tuple(lines_too), outs, width


class ByHand(unittest.TestCase):
    def check(self, one, other, told):
        self.assertEqual(refined(one, other), told, (str(one), str(other)))
        self.assertIs(refined_holds(one, other, told), told is not None)

    def test_by_itself(self):
        for lines, outs in ((["sum.u a b", "quot @0 a"], "@0 a"), (["froze a", "left @0 b"], "@0 @1"), ([], "a"), ([], "2")):
            one = p("a b", lines, outs)
            self.check(one, one, None)

    def test_flags(self):
        plain, flagged = p("a", ["sum a 1"], "@0"), p("a", ["sum.u a 1"], "@0")
        self.check(flagged, plain, None)
        self.check(plain, flagged, ((ANY,), (BAD,)))
        self.check(p("a", ["less.s a 1"], "@0"), p("a", ["less.u a 1"], "@0"), ((0,), (BAD,)))

    def test_an_operand_or_a_num(self):
        self.check(p("a", ["sum a 1"], "@0"), p("a", ["sum a 2"], "@0"), ((0,), (2,)))
        self.check(p("a", ["sum a 1"], "@0"), p("a", ["sum a -3"], "@0"), None)
        self.check(p("a b", ["sum a b"], "@0"), p("a b", ["sum b b"], "@0"), ((0, 1), (2,)))
        self.check(p("a", ["copy a"], "@0 @0"), p("a", ["copy a"], "@0 a"), ((ANY,), (0, 1)))

    def test_a_froze(self):
        self.check(p("a", [], "a"), p("a", ["froze a"], "@0"), None)
        self.check(p("a", ["froze a"], "@0"), p("a", [], "a"), ((BAD,), (BAD,)))
        self.check(p("a", ["xor a a"], "@0"), p("a", ["froze a", "xor @0 @0"], "@1"), None)
        self.check(p("a", ["froze a", "xor @0 @0"], "@1"), p("a", ["xor a a"], "@0"), ((BAD,), (BAD,)))

    def test_a_line_more(self):
        one, other = p("a b", ["sum a b"], "@0"), p("a b", ["sum a b", "quot 1 b"], "@0")
        self.check(other, one, None)
        self.check(one, other, ((BAD, BAD), (FAULT,)))
        self.check(one, p("a b", ["sum a b", "xor b b"], "@0"), None)

    def test_a_fault_goes_ahead_of_all_else_and_lets_all(self):
        one, other = p("a", ["quot 1 a"], "@0"), p("a", ["rest 3 a"], "@0")
        self.check(one, other, ((1,), (0,)))
        self.check(p("a", [], "1"), p("a", ["quot 2 a"], "@0"), ((BAD,), (FAULT,)))
        self.check(p("a", ["quot 2 a"], "@0"), p("a", [], "1"), ((1,), (1,)))
        self.check(p("a", ["quot 0 0"], "5 5"), p("a", ["not a"], "@0 a"), None)

    def test_bad_places(self):
        self.check(p("a", ["left a 3"], "@0 a"), p("a", [], "1 a"), None)
        self.check(p("a", ["left a 3"], "@0 a"), p("a", [], "a 1"), ((0,), (0, 1)))
        self.check(p("a b", ["left 0 3"], "a @0 b"), p("a b", [], "a b b"), None)

    def test_without_inputs(self):
        self.check(p("", [], "5"), p("", ["sum 2 -1"], "@0"), None)
        self.check(p("", [], "5"), p("", ["sum 2 1"], "@0"), ((), (3,)))
        self.check(p("", ["left 0 3", "froze @0"], "@1"), p("", [], "2"), None)
        self.check(p("", [], "2"), p("", ["left 0 3", "froze @0"], "@1"), ((), (0,)))

    def test_the_least_worths_stand_as_bad_any_and_numbers(self):
        self.check(p("a b", [], "1"), p("a b", ["choice same a 3 2 1", "froze @0"], "@1"), ((BAD, BAD), (0,)))
        self.check(p("a b", ["copy 1"], "@0"), p("a b", ["froze a", "choice below @0 2 1 0", "froze b", "or @2 @1"], "@1"),
                   ((BAD, BAD), (0,)))
        self.check(p("a b", [], "a"), p("a b", ["and b 1", "choice same @0 0 a 3"], "@1"), ((ANY, BAD), (BAD,)))

    def test_widths(self):
        for width in (1, 2, 3, 4):
            one, other = p("a", ["sum a a"], "@0", width), p("a", ["twice a"], "@0", width)
            self.check(one, other, None)
            self.check(other, one, ((ANY,), (1,)))


class ByAllRuns(unittest.TestCase):
    def test_against_a_plain_going_through_all(self):
        chance = random.Random("refined")
        seen = {True: 0, False: 0}
        while min(seen.values()) < 120:
            one = chance_program(chance, most=8, most_lines=5)
            other = chance_other(chance, one)
            if len(all_worths(one[0], one[3])) > 50:
                continue
            slow = slow_refined(one, other)
            seen[slow is None] += 1
            self.assertEqual(refined(program(one), program(other)), slow, (one, other))
            self.assertIs(refined_holds(program(one), program(other), slow), slow is not None)
            self.assertIsNone(refined(program(one), program(one)))

    def test_holds_by_all_worths_and_outcomes(self):
        chance = random.Random("holds")
        held = 0
        for _ in range(60):
            one = chance_program(chance, most=8, most_lines=4, widths=(1, 2))
            other = chance_other(chance, one)
            numbers = range(-3, 2 ** one[3] + 1)
            for worths in itertools.product(numbers, repeat=len(one[0])):
                if len(one[0]) * len(one[2]) > 3:
                    continue
                right = worths in all_worths(one[0], one[3])
                olds, news = [all_runs(fields, worths) if right else () for fields in (one, other)]
                for outcome in [(FAULT,), *itertools.product(numbers, repeat=len(one[2]))]:
                    told = outcome in news and not lets_outcome(outcome, olds)
                    self.assertIs(refined_holds(program(one), program(other), (worths, outcome)), told)
                    held += told
        self.assertGreater(held, 100)


class OtherKinds(unittest.TestCase):
    ONE, OTHER = p("a b", ["sum a b"], "@0 a"), p("a b", ["sum.u a b"], "@0 b")
    FAULTS = p("a b", ["quot a b"], "@0 a")

    def refuse(self, *things):
        for thing in things:
            self.assertIs(refined_holds(self.ONE, self.OTHER, thing), False, thing)
            self.assertIs(refined_holds(self.ONE, self.FAULTS, thing), False, thing)

    def test_what_holds(self):
        for thing in (((1, 3), (BAD, 3)), ((1, 2), (3, 2)), ((ANY, 1), (BAD, 1)), ((1, ANY), (BAD, 3)), ((0, 1), (1, 1))):
            self.assertIs(refined_holds(self.ONE, self.OTHER, thing), True, thing)
        self.assertIs(refined_holds(self.ONE, self.FAULTS, ((1, 0), (FAULT,))), True)
        self.assertIs(refined_holds(self.ONE, self.FAULTS, ((1, BAD), (FAULT,))), True)
        self.assertIs(refined_holds(self.FAULTS, self.ONE, ((1, BAD), (BAD, 1))), False)

    def test_other_worths_and_other_outcomes(self):
        self.refuse(((1, 1), (2, 1)), ((3, 1), (0, 1)), ((1, 3), (0, 3)), ((1, 3), (BAD, 1)), ((1, 4), (BAD, 4)),
                    ((1, -3), (BAD, -3)), ((1, 3), (FAULT,)), ((1, 3), (FAULT, FAULT)), ((1, 3), (BAD, ANY)),
                    ((10 ** 39, 1), (0, 1)), ((1, 1), (FAULT,)))

    def test_parts_left_out_twice_in_another_order(self):
        self.refuse((), ((1, 3),), ((1, 3), (BAD, 3), (BAD, 3)), ((BAD, 3), (1, 3)), ((1,), (BAD, 3)), ((1, 3, 3), (BAD, 3)),
                    ((1, 3), (BAD,)), ((1, 3), (BAD, 3, 3)), ((1, 3), ()), ((), (BAD, 3)), ((3, 1), (BAD, 3)), (1, 3, BAD, 3),
                    (((1, 3), (BAD, 3)),))

    def test_lists_truths_none(self):
        self.refuse([(1, 3), (BAD, 3)], ([1, 3], (BAD, 3)), ((1, 3), [BAD, 3]), {(1, 3): (BAD, 3)}, None, True, False, 0, 1)
        self.refuse(((True, 3), (BAD, 3)), ((1, 2), (3, None)), ((None, 3), (BAD, 3)), ((1, "3"), (BAD, 3)),
                    ((0, True), (1, 1)), ((0, 1), (True, 1)), ((False, 1), (1, 1)), ((0, 1), (1, True)))

    def test_spoilt_in_one_place(self):
        chance = random.Random("spoilt")
        for thing in (((1, 3), (BAD, 3)), ((0, 1), (1, 1)), ((1, 2), (3, 2))):
            self.refuse(*spoilt(thing, chance, 30))

    def test_of_anything(self):
        for thing in odd_things():
            # These three are worths that hold.
            if thing in (1, 3, -1) and thing is not True:
                continue
            self.refuse(thing, (thing,), (thing, thing), ((1, 3), thing), (thing, (BAD, 3)), ((thing, 3), (BAD, 3)),
                        ((1, 3), (thing, 3)), ((1, 3), (BAD, thing)), ((thing, thing), (thing, thing)))

    def test_programs_without_inputs(self):
        one, other = p("", [], "1"), p("", [], "2")
        self.assertIs(refined_holds(one, other, ((), (2,))), True)
        for thing in (((), (1,)), ((), (6,)), ([], (2,)), (None, (2,)), ((0,), (2,)), ((), 2), ((), (2, 2))):
            self.assertIs(refined_holds(one, other, thing), False)


class Calls(unittest.TestCase):
    def test_by_places_and_names(self):
        self.assertEqual(str(inspect.signature(refined)), "(one, other)")
        self.assertEqual(str(inspect.signature(refined_holds)), "(one, other, thing)")
        for call in (refined, refined_holds):
            self.assertEqual(call.__module__, refining.__name__)
        one, other = p("a", ["sum a 1"], "@0"), p("a", ["sum.u a 1"], "@0")
        self.assertEqual(refined(other=other, one=one), ((ANY,), (BAD,)))
        self.assertIs(refined_holds(thing=((ANY,), (BAD,)), other=other, one=one), True)

    def test_what_is_handed_in_stays(self):
        one, other = p("a", ["sum a 1"], "@0"), p("a", ["sum.u a 1"], "@0")
        ahead = repr([one, other])
        for thing in [*odd_things(), ((3,), (BAD,))]:
            assert_keeps(self, lambda that: refined_holds(one, other, that), thing)
        refined(one, other)
        self.assertEqual(repr([one, other]), ahead)

    def test_the_same_again_behind_other_calls(self):
        chance = random.Random("again")
        asked = []
        for _ in range(40):
            one = chance_program(chance, most=8)
            asked.append((program(one), program(chance_other(chance, one))))
        first = [refined(*one) for one in asked]
        self.assertEqual([refined(*one) for one in reversed(asked)], first[::-1])
