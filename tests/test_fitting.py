"""Where rules fit, and steps by them (points 3 and 22)."""

import inspect
import random
import unittest

from poisonrules import fitting
from poisonrules.errors import NoFit, NoRule
from poisonrules.fitting import fits, stepped
from poisonrules.judging import judged
from poisonrules.programs import Program
from poisonrules.progtexts import read_program
from poisonrules.refining import refined
from poisonrules.rules import Rule
from poisonrules.ruletexts import read_rule

from helper import (
    assert_keeps, chance_rules, odd_things, planted_program, program_size, slow_fits, slow_stepped)


def p(inputs, lines, outs, width=2):
    return read_program("\n".join([f"width {width}", f"in {inputs}".strip(), *lines, f"out {outs}"]))


def r(text):
    return read_rule(f"rule f {text}")


def program(fields):
    return Program(*fields[:3], width=fields[3])


def rules_with_programs(seed, many):
    """(Rule, its fields, fields of a program) by chance."""
    chance = random.Random(seed)
    found = []
    for old, new, cond in chance_rules(seed, many, room=6):
        new = chance.choice([new, new, old])
        try:
            rule = Rule("f", old, new, cond=cond)
        except NoRule:
            continue
        fields = planted_program(chance, old)
        if fields is not None:
            found.append((rule, (old, new, cond), fields))
    return found


class Fits(unittest.TestCase):
    def check(self, text, lines, told, inputs="a b", outs="0", width=2):
        self.assertEqual(fits(p(inputs, lines, outs, width), r(text)), told, (text, lines))

    def test_words_flags_comparisons(self):
        self.check("sum x y to sum y x", ["sum a b", "sum.u a b", "less a b", "sum a 1"], (0, 3))
        self.check("sum.us x y to sum y x", ["sum a b", "sum.us a b", "sum.s a b"], (1,))
        self.check("choice below x y z z to z", ["choice below a b 1 1", "choice under a b 1 1", "choice below a b 1 2"], (0,))
        self.check("not x to x", ["not a", "froze a", "copy a", "not @1"], (0, 3))
        self.check("not x to x", [], ())

    def test_a_look_is_any_operand_the_same_each_time(self):
        self.check("sum x x to twice x", ["sum a a", "sum a b", "sum 1 1", "sum @0 @0", "sum @0 @1", "sum 1 -3"], (0, 2, 3))
        self.check("sum x y to x", ["sum a a"], (0,))

    def test_a_const_is_the_same_num_as_written(self):
        self.check("sum x #c to x", ["sum a 1", "sum 1 a", "sum 1 1", "sum a b", "sum a @0"], (0, 2))
        self.check("choice same x #c y #c to y", ["choice same a 1 b 1", "choice same a 1 b 2", "choice same a 1 b -3"], (0,))
        self.check("sum #c #c to 0", ["sum 1 1", "sum 1 5", "sum -3 1"], (0,))

    def test_a_const_called_like_an_input(self):
        self.check("sum c #c to c", ["sum a 1", "sum 2 1", "sum 1 1", "sum 1 b"], (0, 1, 2))

    def test_a_num_is_the_same_as_written(self):
        self.check("sum x 1 to x", ["sum a 1", "sum a 5", "sum a -3", "sum 1 1"], (0, 3))
        self.check("sum x 1 to x", ["sum a 1", "sum a 3"], (0,), width=1)

    def test_inner_lines_are_looked_at_nowhere_else(self):
        text = "not not x to x"
        self.check(text, ["not a", "not @0"], (1,))
        self.check(text, ["not a", "not @0", "not @1"], (1, 2))
        self.check(text, ["not a", "not @0", "sum @0 a"], ())
        self.check(text, ["not a", "not @0"], (), outs="@0")
        self.check(text, ["not a", "not @0"], (1,), outs="@1 @1")
        self.check(text, ["not a", "copy @0", "not @1"], ())
        self.check(text, ["not a", "copy b", "sum @1 2", "not @0"], (3,))

    def test_an_inner_line_that_the_whole_looks_at_twice(self):
        self.check("and not x not x to not x", ["not a", "and @0 @0"], ())
        self.check("and not x not x to not x", ["not a", "not a", "and @0 @1"], (2,))
        self.check("and not x not x to not x", ["not a", "not b", "and @0 @1"], ())
        self.check("and y y to y", ["not a", "and @0 @0"], (1,))

    def test_inner_lines_fit_so(self):
        self.check("xor sum x 1 sum y 1 to xor x y", ["sum a 1", "sum b 1", "xor @0 @1", "xor @2 @2"], (2,))
        self.check("xor sum x 1 sum y 1 to xor x y", ["sum a 1", "sum b 2", "xor @0 @1"], ())
        self.check("xor sum x 1 sum y 1 to xor x y", ["sum a 1", "xor @0 a"], ())
        self.check("sum x not x to -1", ["not a", "sum a @0", "not b", "sum a @2"], (1,))
        self.check("sum x not x to -1", ["froze a", "not @0", "sum @0 @1"], (2,))

    def test_tests_hold_by_the_width(self):
        for width, told in ((1, (0, 1, 2, 3)), (2, (0, 1, 3)), (3, (0, 1, 3)), (4, (0, 1, 3))):
            self.check("sum x #c to x if unlike sum #c #c 4", ["sum a 1", "sum a 3", "sum a 2", "sum a 5"],
                       tuple(at for at in told if (2 * (1, 3, 2, 5)[at] - 4) % 2 ** width), width=width)
        self.check("sum x #c to x if same #c 1", ["sum a 1", "sum a 5", "sum a -3", "sum a 0"], (0, 1, 2))
        self.check("sum x #c to x if same #c 1", ["sum a 1", "sum a 5", "sum a -3", "sum a -7"], (0, 3), width=3)
        self.check("sum x #c to x if under #c 0 , below #c 3", ["sum a -1", "sum a -2", "sum a 2"], (1, 2))
        self.check("sum x #c to x if under #c 0", ["sum a 1"], (0,), width=1)

    def test_twelve_lines(self):
        lines = ["not a", *[f"not @{at}" for at in range(11)]]
        self.check("not not x to x", lines, tuple(range(1, 12)), outs="@11")
        self.check("not not x to x", lines, tuple(at for at in range(1, 12) if at != 6), outs="@11 @5")

    def test_against_slow_ones(self):
        some = 0
        for rule, (old, _, cond), fields in rules_with_programs("fits", 500):
            slow = slow_fits(fields, old, cond)
            self.assertEqual(fits(program(fields), rule), slow, (str(rule), fields))
            some += len(slow) > 0
        self.assertGreater(some, 100)


class Steps(unittest.TestCase):
    def check(self, text, lines, line, told, inputs="a b", outs="0", told_outs=None, width=2):
        ahead = p(inputs, lines, outs, width)
        self.assertEqual(str(stepped(ahead, r(text), line)), str(p(inputs, told, told_outs or outs, width)), (text, lines))
        self.assertEqual(ahead, p(inputs, lines, outs, width))

    def test_a_look_a_const_a_num(self):
        self.check("sum x 0 to x", ["sum a 0"], 0, ["copy a"], outs="@0")
        self.check("sum x 0 to x", ["not b", "sum @0 0"], 1, ["not b", "copy @0"], outs="@1")
        self.check("sum #c 0 to #c", ["sum -2 0"], 0, ["copy -2"], outs="@0")
        self.check("xor x x to 7", ["xor a a", "not @0"], 0, ["copy 7", "not @0"], outs="@1")

    def test_lines_right_ahead_parts_first_as_written(self):
        self.check("sum x y to sum not x twice.u froze y", ["sum a b"], 0,
                   ["not a", "froze b", "twice.u @1", "sum @0 @2"], outs="@0", told_outs="@3")
        self.check("less x #c to choice under x #c sum x #c not 3", ["copy b", "less @0 -3", "not @1"], 1,
                   ["copy b", "sum @0 -3", "not 3", "choice under @0 -3 @1 @2", "not @3"], outs="@2 @1", told_outs="@4 @3")

    def test_the_other_lines_of_old_go(self):
        self.check("not not x to x", ["not a", "froze b", "not @0", "sum @2 @1"], 2,
                   ["froze b", "copy a", "sum @1 @0"], outs="@3", told_outs="@2")
        self.check("xor sum x 1 sum y 1 to xor x y", ["sum b 1", "copy a", "sum @1 1", "xor @2 @0"], 3,
                   ["copy a", "xor @0 b"], outs="@3", told_outs="@1")
        self.check("xor sum x 1 sum y 1 to xor not x not y", ["sum b 1", "copy a", "sum @1 1", "xor @2 @0", "not @1"], 3,
                   ["copy a", "not @0", "not b", "xor @1 @2", "not @0"], outs="@4 @3", told_outs="@4 @3")

    def test_a_thing_written_twice(self):
        self.check("twice x to sum not x not x", ["twice a"], 0, ["not a", "not a", "sum @0 @1"], outs="@0", told_outs="@2")
        self.check("twice x to sum x x", ["froze a", "twice @0"], 1, ["froze a", "sum @0 @0"], outs="@1")

    def test_the_first_and_the_last_line(self):
        lines = ["not a", *[f"not @{at}" for at in range(11)]]
        told = ["sum -1 a", *[f"not @{at}" for at in range(11)]]
        self.check("not x to sum -1 x", lines, 0, told, outs="@11")
        told = [*lines[:11], "twice 3", "sum @11 @10"]
        self.check("not x to sum twice 3 x", lines, 11, told, outs="@11", told_outs="@12")

    def test_an_input_of_the_rule_called_like_the_programs(self):
        self.check("less a b to sum b a", ["less b a"], 0, ["sum a b"], outs="@0")
        self.check("sum c #c to xor #c c", ["sum a 3"], 0, ["xor 3 a"], outs="@0")

    def test_consts_as_written(self):
        self.check("sum x #c to less x not #c", ["sum a -7"], 0, ["not -7", "less a @0"], outs="@0", told_outs="@1")

    def test_against_slow_ones(self):
        some = 0
        for rule, (old, new, cond), fields in rules_with_programs("steps", 500):
            for at in slow_fits(fields, old, cond):
                told = stepped(program(fields), rule, at)
                self.assertEqual(told, program(slow_stepped(fields, old, new, cond, at)), (str(rule), fields, at))
                some += 1
        self.assertGreater(some, 100)

    def test_right_rules_let_in_nothing(self):
        right = 0
        for rule, (old, _, cond), fields in rules_with_programs("right", 900):
            if judged(rule, width=fields[3]) is None:
                for at in slow_fits(fields, old, cond):
                    told = stepped(program(fields), rule, at)
                    if program_size(told.inputs, told.lines, told.outs, told.width) <= 12:
                        self.assertIsNone(refined(program(fields), told), (str(rule), fields, at))
                        right += 1
        self.assertGreater(right, 100)


class Refuses(unittest.TestCase):
    def refuse(self, ahead, rule, *lines):
        for line in lines:
            with self.assertRaises(NoFit, msg=line) as caught:
                stepped(ahead, rule, line)
            self.assertIs(caught.exception.line, line)

    def test_lines_at_which_it_does_not_fit(self):
        ahead = p("a", ["not a", "not @0", "sum @1 @1"], "@2")
        self.refuse(ahead, r("not not x to x"), 0, 2)
        self.refuse(ahead, r("sum.u x x to x"), 0, 1, 2)
        self.assertEqual(len(stepped(ahead, r("not not x to x"), 1)), 2)

    def test_no_such_lines(self):
        ahead = p("a", ["not a", "not @0"], "@1")
        self.refuse(ahead, r("not x to x"), 2, -1, -2, 10 ** 39, -(10 ** 39))
        self.refuse(p("", [], "1"), r("not x to x"), 0)

    def test_of_anything(self):
        ahead = p("a", ["not a", "not @0"], "@1")
        self.refuse(ahead, r("not x to x"), True, False, "0", "1", None, (0,), [0], {0: 0}, ("line", 0), "not a")
        for thing in odd_things():
            if thing not in (0, 1) or isinstance(thing, bool):
                self.refuse(ahead, r("not x to x"), thing)

    def test_tests(self):
        self.refuse(p("a", ["sum a 2"], "@0"), r("sum x #c to x if same #c 0"), 0)
        self.assertEqual(len(stepped(p("a", ["sum a 2"], "@0", 1), r("sum x #c to x if same #c 0"), 0)), 1)


class Calls(unittest.TestCase):
    def test_by_places_and_names(self):
        self.assertEqual(str(inspect.signature(fits)), "(program, rule)")
        self.assertEqual(str(inspect.signature(stepped)), "(program, rule, line)")
        for call in (fits, stepped):
            self.assertEqual(call.__module__, fitting.__name__)
        ahead, rule = p("a", ["not a"], "@0"), r("not x to x")
        self.assertEqual(fits(rule=rule, program=ahead), (0,))
        self.assertEqual(stepped(line=0, rule=rule, program=ahead), p("a", ["copy a"], "@0"))

    def test_what_is_handed_in_stays_and_the_same_again(self):
        ahead, rule = p("a", ["not a"], "@0"), r("not x to x")
        for thing in odd_things():
            assert_keeps(self, lambda one: stepped(ahead, rule, one), thing)
        asked = [(program(fields), rule) for rule, _, fields in rules_with_programs("again", 60)]
        shown = repr(asked)
        first = [fits(*one) for one in asked]
        self.assertEqual([fits(*one) for one in reversed(asked)], first[::-1])
        self.assertEqual(repr(asked), shown)
