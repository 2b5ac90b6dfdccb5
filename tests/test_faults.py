"""The worths by which programs may fault (point 21)."""

import inspect
import random
import unittest

from poisonrules import faults
from poisonrules.faults import fault_worths
from poisonrules.programs import Program
from poisonrules.progtexts import read_program

from helper import ANY, BAD, FAULT, all_runs, all_worths, chance_program


def p(inputs, lines, outs, width=2):
    return read_program("\n".join([f"width {width}", f"in {inputs}".strip(), *lines, f"out {outs}"]))


class ByHand(unittest.TestCase):
    def check(self, inputs, lines, told, width=2, outs="0"):
        self.assertEqual(fault_worths(p(inputs, lines, outs, width)), told, lines)

    def test_none(self):
        self.check("a b", [], ())
        self.check("", ["left 0 3"], ())
        self.check("a", ["sum.us a a", "left @0 a", "froze @1"], ())
        self.check("a", ["quot a 3", "rest a 1"], ())
        self.check("a", ["or a 1", "froze @0", "or @1 1", "quot 1 @2"], ())

    def test_a_quotient_by_what_may_be_0(self):
        self.check("a", ["quot 1 a"], ((BAD,), (ANY,), (0,)))
        self.check("a", ["rest 1 a"], ((BAD,), (ANY,), (0,)))
        self.check("a", ["or a 1", "quot 1 @0"], ((BAD,),))
        self.check("a", ["and a 1", "quot 1 @0"], ((BAD,), (ANY,), (0,), (2,)))
        self.check("a", ["quot a 1"], ())
        self.check("a", ["froze a", "quot 1 @0"], ((BAD,), (ANY,), (0,)))
        self.check("a", ["quot 1 0"], tuple((worth,) for worth in range(-2, 4)))
        self.check("a", ["quot 1 4"], tuple((worth,) for worth in range(-2, 4)))
        self.check("a", ["quot 1 4"], (), width=3)

    def test_by_bad(self):
        self.check("a", ["sum.u a 1", "quot 1 @0"], ((BAD,), (ANY,), (3,)))
        self.check("a", ["left 0 2", "choice same a 0 @0 1", "quot 1 @1"], ((BAD,), (ANY,), (0,)))
        self.check("", ["left 0 2", "quot 1 @0"], ((),))

    def test_in_a_choice_that_is_not_taken(self):
        self.check("a", ["quot 1 a", "choice same a 0 1 @0"], ((BAD,), (ANY,), (0,)), outs="@1")

    def test_two_looks_and_one_line_looked_at_twice(self):
        self.check("a", ["xor a a", "quot 1 @0"], tuple((worth,) for worth in range(-2, 4)))
        self.check("a", ["sum a 0", "xor @0 @0", "or @1 1", "quot 1 @2"], ((BAD,),))
        self.check("a", ["copy a", "not @0", "or @0 @1", "quot 1 @2"], ((BAD,),))
        self.check("a", ["not a", "or a @0", "quot 1 @1"], ((BAD,), (ANY,)))

    def test_two_inputs(self):
        told = fault_worths(p("a b", ["less a b", "quot 1 @0"], "0", 1))
        self.assertEqual(told, tuple(one for one in all_worths("ab", 1) if BAD in one or ANY in one or one[0] == one[1]))


class ByAllRuns(unittest.TestCase):
    def test_programs_by_chance(self):
        chance = random.Random("faults")
        some = 0
        for _ in range(600):
            fields = chance_program(chance, most=8, heads=("quot", "rest", "sum", "xor", "and", "froze", "copy", "not"))
            worths = all_worths(fields[0], fields[3])
            if len(worths) > 50:
                continue
            slow = tuple(one for one in worths if (FAULT,) in all_runs(fields, one))
            self.assertEqual(fault_worths(Program(*fields[:3], width=fields[3])), slow, fields)
            some += 0 < len(slow) < len(worths)
        self.assertGreater(some, 40)

    def test_twelve_lines(self):
        lines = ["sum a a", "froze a", *[f"sum @{at} @{at + 1}" for at in range(8)], "quot @9 @8", "rest @8 @9"]
        told = fault_worths(p("a b", lines, "@11", 2))
        self.assertEqual(told, tuple(one for one in all_worths("ab", 2) if (FAULT,) in all_runs(
            (("a", "b"), p("a b", lines, "@11").lines, (("line", 11),), 2), one)))


class Calls(unittest.TestCase):
    def test_by_places_and_names(self):
        self.assertEqual(str(inspect.signature(fault_worths)), "(program)")
        self.assertEqual(fault_worths.__module__, faults.__name__)
        self.assertEqual(fault_worths(program=p("a", ["quot 1 a"], "a")), ((BAD,), (ANY,), (0,)))

    def test_the_same_again_and_what_is_handed_in_stays(self):
        chance = random.Random("again")
        asked = [Program(*fields[:3], width=fields[3])
                 for fields in [chance_program(chance, most=8) for _ in range(40)]]
        ahead = repr(asked)
        first = [fault_worths(one) for one in asked]
        self.assertEqual([fault_worths(one) for one in reversed(asked)], first[::-1])
        self.assertEqual(repr(asked), ahead)
