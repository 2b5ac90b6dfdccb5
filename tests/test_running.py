"""What programs may come to (point 20)."""

import inspect
import itertools
import random
import unittest

from poisonrules import running
from poisonrules.programs import Program
from poisonrules.progtexts import read_program
from poisonrules.running import are_let, outcomes_of

from helper import ANY, BAD, FAULT, all_runs, all_worths, chance_program, lets_outcome


def p(inputs, lines, outs, width=2):
    return read_program("\n".join([f"width {width}", f"in {inputs}".strip(), *lines, f"out {outs}"]))


def told(inputs, lines, outs, *worths, width=2):
    return outcomes_of(p(inputs, lines, outs, width), worths)


class ByHand(unittest.TestCase):
    def test_without_lines(self):
        self.assertEqual(told("", [], "7"), ((3,),))
        self.assertEqual(told("", [], "-1 0", width=4), ((15, 0),))
        self.assertEqual(told("a", [], "a", 2), ((2,),))
        self.assertEqual(told("a", [], "a", BAD), ((BAD,),))
        self.assertEqual(told("a", [], "a", ANY), ((0,), (1,), (2,), (3,)))
        self.assertEqual(told("a", [], "5", ANY), ((1,),))

    def test_outs_that_look_straight_at_an_any_input(self):
        self.assertEqual(told("a", [], "a a", ANY, width=1), ((0, 0), (0, 1), (1, 0), (1, 1)))
        self.assertEqual(told("a", [], "a 1 a", ANY, width=1), ((0, 1, 0), (0, 1, 1), (1, 1, 0), (1, 1, 1)))
        self.assertEqual(told("a", [], "a a", 1, width=1), ((1, 1),))

    def test_a_line_is_reckoned_once_and_looks_are_not(self):
        self.assertEqual(told("a", ["sum a 0", "xor @0 @0"], "@1", ANY), ((0,),))
        self.assertEqual(told("a", ["xor a a"], "@0", ANY), ((0,), (1,), (2,), (3,)))
        self.assertEqual(told("a", ["sum a 0"], "@0 @0", ANY, width=1), ((0, 0), (1, 1)))
        self.assertEqual(told("a", ["sum a 0"], "@0 a", ANY, width=1), ((0, 0), (0, 1), (1, 0), (1, 1)))
        self.assertEqual(told("a", ["sum a a", "sum @0 a", "xor @0 @1"], "@2", ANY, width=1), ((0,), (1,)))

    def test_copies(self):
        self.assertEqual(told("a", ["copy a"], "@0 @0", ANY, width=1), ((0, 0), (1, 1)))
        self.assertEqual(told("a", ["copy a", "copy @0"], "@0 @1", ANY, width=1), ((0, 0), (1, 1)))
        self.assertEqual(told("a", ["copy a", "copy a"], "@0 @1", ANY, width=1), ((0, 0), (0, 1), (1, 0), (1, 1)))
        self.assertEqual(told("a", ["copy a", "copy @0"], "@0 @1", BAD), ((BAD, BAD),))
        self.assertEqual(told("", ["copy -2", "copy @0"], "@1 @0"), ((2, 2),))

    def test_a_line_may_be_bad_or_a_number(self):
        self.assertEqual(told("a", ["sum.u a 1"], "@0 @0", ANY, width=1), ((BAD, BAD), (1, 1)))
        self.assertEqual(told("a", ["sum.u a 1", "and @0 0", "choice same 0 0 @0 1"], "@1 @2", ANY, width=1),
                         ((BAD, BAD), (0, 1)))

    def test_frozes(self):
        self.assertEqual(told("a", ["froze a"], "@0", ANY), ((0,), (1,), (2,), (3,)))
        self.assertEqual(told("a", ["froze a"], "@0", BAD), ((0,), (1,), (2,), (3,)))
        self.assertEqual(told("a", ["froze a"], "@0", 2), ((2,),))
        self.assertEqual(told("a", ["froze a", "xor @0 @0"], "@1", BAD), ((0,),))
        self.assertEqual(told("a", ["froze a", "froze a"], "@0 @1", BAD, width=1), ((0, 0), (0, 1), (1, 0), (1, 1)))
        self.assertEqual(told("a", ["sum.u a 1", "froze @0"], "@0 @1", ANY, width=1), ((BAD, 0), (BAD, 1), (1, 1)))
        self.assertEqual(told("", ["left 1 2", "froze @0", "froze @1"], "@1 @2"), ((0, 0), (1, 1), (2, 2), (3, 3)))

    def test_a_bad_line_in_a_choice(self):
        lines = ["left 0 3", "choice same a 0 @0 1"]
        self.assertEqual(told("a", lines, "@1", 0), ((BAD,),))
        self.assertEqual(told("a", lines, "@1", 1), ((1,),))
        self.assertEqual(told("a", lines, "@1", ANY), ((BAD,), (1,)))
        self.assertEqual(told("a", ["left 0 3", "choice below @0 a 0 1"], "@1", 1), ((BAD,),))
        self.assertEqual(told("a", ["choice under a 0 a 7"], "@0", 2), ((2,),))

    def test_faults(self):
        self.assertEqual(told("a", ["quot 1 a"], "5", 0), ((FAULT,),))
        self.assertEqual(told("a", ["rest 1 a"], "5", BAD), ((FAULT,),))
        self.assertEqual(told("a", ["quot 1 a"], "5", ANY), ((FAULT,), (1,)))
        self.assertEqual(told("a", ["quot 3 a"], "@0", ANY), ((FAULT,), (1,), (3,)))
        self.assertEqual(told("a", ["quot a 1"], "@0 5", BAD), ((BAD, 1),))
        self.assertEqual(told("a", ["quot 1 a", "choice same 0 0 2 @0"], "@1", 0), ((FAULT,),))
        self.assertEqual(told("a", ["copy a", "quot 1 @0", "and @0 1"], "@2", ANY), ((FAULT,), (0,), (1,)))
        self.assertEqual(told("a", ["copy a", "quot 1 @0"], "@0", ANY), ((FAULT,), (1,), (2,), (3,)))
        self.assertEqual(told("a", ["quot 1 a", "rest 2 0"], "7", ANY), ((FAULT,),))

    def test_a_fault_that_goes_with_what_else_comes(self):
        # By 0 it faults: so of the two that look at one line none comes to 0.
        lines = ["copy a", "quot 2 @0", "sum.u @0 1"]
        self.assertEqual(told("a", lines, "@1 @2", ANY), ((FAULT,), (0, BAD), (1, 3), (2, 2)))

    def test_widths_and_numbers(self):
        for width in (1, 2, 3, 4):
            top = 2 ** width
            self.assertEqual(told("a", ["sum a 1"], "@0", top - 1, width=width), ((0,),))
            self.assertEqual(told("a", ["sum.u a 1"], "@0", top - 1, width=width), ((BAD,),))
            self.assertEqual(told("a", ["copy a"], "@0 @0", ANY, width=width), tuple((one, one) for one in range(top)))

    def test_twelve_lines(self):
        lines = ["sum a 1", *[f"sum @{at} @{at}" for at in range(11)]]
        self.assertEqual(told("a", lines, "@0 @1 @11", 0, width=4), ((1, 2, 0),))
        self.assertEqual(told("a", lines, "@11", ANY, width=4), ((0,),))
        lines = ["left 0 1", *["froze @0"] * 11]
        self.assertEqual(len(told("", lines, "@1 @6 @11", width=1)), 8)
        lines = ["left 0 1", *["froze @0"] * 8, "choice same @1 @2 @3 @4", "choice same @5 @6 @7 @8", "xor @9 @10"]
        self.assertEqual(told("", lines, "@9 @10 @11", width=1), ((0, 0, 0), (0, 1, 1), (1, 0, 1), (1, 1, 0)))


class ByAllRuns(unittest.TestCase):
    def test_programs_by_chance(self):
        chance = random.Random("runs")
        faults = bads = 0
        for _ in range(1200):
            inputs, lines, outs, width = chance_program(chance, most=chance.choice((6, 8, 8, 10)))
            program = Program(inputs, lines, outs, width=width)
            worths = all_worths(inputs, width)
            for one in chance.sample(worths, min(8, len(worths))):
                slow = all_runs((inputs, lines, outs, width), one)
                self.assertEqual(outcomes_of(program, one), slow, (str(program), one))
                faults += (FAULT,) in slow and len(slow) > 1
                bads += any(BAD in outcome for outcome in slow) and len(slow) > 1
        self.assertGreater(min(faults, bads), 100)

    def test_the_greatest_in_the_bounds(self):
        chance = random.Random("great")
        for _ in range(8):
            inputs, lines, outs, width = chance_program(chance, widths=(1,), most_lines=12)
            worths = tuple(chance.choice((ANY, ANY, BAD, 1)) for _ in inputs)
            slow = all_runs((inputs, lines, outs, width), worths)
            self.assertEqual(outcomes_of(Program(inputs, lines, outs, width=width), worths), slow)


class Let(unittest.TestCase):
    def check(self, new, old, truth):
        self.assertIs(are_let(tuple(new), tuple(old)), truth, (new, old))

    def test_faults(self):
        fault, one, bad = (FAULT,), (1,), (BAD,)
        self.check([fault], [fault], True)
        self.check([fault, one], [fault, bad], True)
        self.check([one, bad], [fault], True)
        self.check([one], [fault, (2,)], True)
        self.check([fault], [bad], False)
        self.check([fault, one], [one], False)
        self.check([fault], [], False)

    def test_bad_at_some_places_only(self):
        self.check([(1, 2)], [(BAD, 2)], True)
        self.check([(1, 2)], [(1, BAD)], True)
        self.check([(1, 2)], [(BAD, BAD)], True)
        self.check([(1, 2)], [(BAD, 3), (3, BAD)], False)
        self.check([(BAD, 2)], [(BAD, 2)], True)
        self.check([(BAD, 2)], [(1, 2), (1, BAD)], False)
        self.check([(1, 2, 3), (3, 2, 3)], [(BAD, 2, 3)], True)
        self.check([(1, 2, 3), (3, 2, 2)], [(BAD, 2, 3)], False)
        self.check([(1, 2), (2, 1)], [(1, BAD), (2, 1)], True)

    def test_numbers(self):
        self.check([(1,)], [(1,), (2,)], True)
        self.check([(1,), (2,)], [(1,)], False)
        self.check([(1, 2)], [(2, 1)], False)

    def test_empty_rows(self):
        self.check([], [], True)
        self.check([], [(1,)], True)
        self.check([], [(FAULT,)], True)
        self.check([(1,)], [], False)

    def test_all_small_ones(self):
        outcomes = [(FAULT,), *itertools.product((BAD, 0, 1), repeat=2)]
        chance = random.Random("let")
        seen = {True: 0, False: 0}
        for _ in range(3000):
            new, old = [tuple(sorted(chance.sample(outcomes, chance.randrange(5)))) for _ in range(2)]
            slow = all(lets_outcome(outcome, old) for outcome in new)
            self.assertIs(are_let(new, old), slow, (new, old))
            seen[slow] += 1
        self.assertGreater(min(seen.values()), 500)

    def test_many(self):
        rows = tuple(itertools.product(range(16), repeat=3))
        self.check(rows, rows, True)
        self.check(rows, rows[1:], False)
        self.check(rows, [(BAD, BAD, number) for number in range(16)], True)


class Calls(unittest.TestCase):
    def test_by_places_and_names(self):
        self.assertEqual(str(inspect.signature(outcomes_of)), "(program, worths)")
        self.assertEqual(str(inspect.signature(are_let)), "(new, old)")
        for call in (outcomes_of, are_let):
            self.assertEqual(call.__module__, running.__name__)
        program = p("a", ["sum.u a 1"], "@0")
        self.assertEqual(outcomes_of(worths=(1,), program=program), ((2,),))
        self.assertIs(are_let(old=((BAD,),), new=((1,),)), True)

    def test_the_same_again_and_what_is_handed_in_stays(self):
        chance = random.Random("again")
        asked = []
        for _ in range(60):
            inputs, lines, outs, width = chance_program(chance, most=8)
            asked.append((Program(inputs, lines, outs, width=width), chance.choice(all_worths(inputs, width))))
        ahead = repr(asked)
        first = [outcomes_of(*one) for one in asked]
        self.assertEqual([outcomes_of(*one) for one in reversed(asked)], first[::-1])
        self.assertEqual(repr(asked), ahead)
        for one in first:
            self.assertEqual(list(one), sorted(set(one)))
            self.assertTrue(all(number.__class__ is int for outcome in one for number in outcome))
