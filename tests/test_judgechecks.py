"""Checks of what is told against a rule at a width (points 2 and 11)."""

import inspect
import itertools
import unittest

from poisonrules import judgechecks
from poisonrules.judgechecks import judge_holds
from poisonrules.judging import judged
from poisonrules.rules import Rule
from poisonrules.ruletexts import read_rule

from helper import ANY, BAD, FAULT, assert_keeps, chance_rules, names_of, odd_things, ways_to_draw, wrong_worths

WRONG = read_rule("rule f sum froze a #c to froze a if unlike #c 2")
RIGHT = read_rule("rule f sum a a to twice a")


class ByHand(unittest.TestCase):
    def test_the_least_and_others(self):
        for thing in [((1, 0), 0), ((1, 3), 3), ((3, 0), 0), ((3, 2), 2)]:
            self.assertIs(judge_holds(WRONG, thing), True, thing)

    def test_worths_by_which_it_is_right(self):
        for thing in [((0, 0), 0), ((1, ANY), 0), ((1, BAD), 0), ((1, BAD), BAD)]:
            self.assertIs(judge_holds(WRONG, thing), False, thing)

    def test_numbers_by_which_a_test_does_not_hold(self):
        self.assertIs(judge_holds(WRONG, ((2, 0), 0)), False)
        self.assertIs(judge_holds(read_rule("rule f sum froze a #c to froze a"), ((2, 0), 0)), True)

    def test_outcomes_that_new_has_not(self):
        for outcome in (1, 2, 3, 4, ANY, BAD, FAULT, -4, 10 ** 39):
            self.assertIs(judge_holds(WRONG, ((1, 0), outcome)), False, outcome)

    def test_any_outcome_that_by_itself_is_not_let(self):
        rule = read_rule("rule f twice a to sum a a")
        told = [outcome for outcome in range(-4, 5) if judge_holds(rule, ((ANY,), outcome))]
        self.assertEqual(told, [1, 3])
        rule = read_rule("rule f times froze a 0 to quot sum.u froze a 1 froze a")
        told = [outcome for outcome in range(-4, 5) if judge_holds(rule, ((BAD,), outcome))]
        self.assertEqual(told, [FAULT, BAD, 1, 2, 3])

    def test_what_is_let_by_itself_beside_a_fault(self):
        rule = read_rule("rule f not a to quot 2 froze a")
        told = [outcome for outcome in range(-4, 5) if judge_holds(rule, ((BAD,), outcome))]
        self.assertEqual(told, [FAULT])

    def test_a_fault_of_old_lets_all(self):
        rule = read_rule("rule f quot 1 a to not a")
        for worth, outcome in itertools.product((ANY, BAD, 0), (FAULT, BAD, 0, 1, 2, 3)):
            self.assertIs(judge_holds(rule, ((worth,), outcome)), False)
        self.assertIs(judge_holds(rule, ((1,), 2)), True)

    def test_right_rules(self):
        for thing in [None, ((), 0), ((0,), 0), ((ANY,), 1), ((BAD,), BAD), ((BAD,), FAULT)]:
            self.assertIs(judge_holds(RIGHT, thing), False)

    def test_widths(self):
        rule = read_rule("rule f sum froze a 1 to less froze a 1")
        self.assertIs(judge_holds(rule, ((0,), 1), width=1), False)
        self.assertIs(judge_holds(rule, ((0,), 3)), True)
        self.assertIs(judge_holds(rule, ((0,), 7), width=3), True)
        self.assertIs(judge_holds(rule, ((0,), 3), width=3), False)
        self.assertIs(judge_holds(rule, ((7,), 6), width=3), True)
        self.assertIs(judge_holds(rule, ((7,), 6)), False)


class OtherKinds(unittest.TestCase):
    def refuse(self, rule, *things):
        for thing in things:
            self.assertIs(judge_holds(rule, thing), False, thing)

    def test_none(self):
        for rule in (RIGHT, WRONG):
            self.refuse(rule, None)

    def test_truths_in_the_place_of_numbers(self):
        self.refuse(WRONG, ((True, 0), 0), ((1, False), 0), ((1, 0), False), ((True, False), False), (True, 0),
                    ((1, 1), True))
        self.assertIs(judge_holds(WRONG, ((1, 1), 1)), True)

    def test_lists_in_the_place_of_tuples(self):
        self.refuse(WRONG, [(1, 0), 0], ([1, 0], 0), ((1, 0), [0]), (([1], 0), 0), {(1, 0): 0})

    def test_parts_left_out_or_twice(self):
        self.refuse(WRONG, (), ((1, 0),), ((1, 0), 0, 0), ((1, 0), 0, None), ((1,), 0), ((1, 0, 0), 0), ((), 0),
                    (0, (1, 0)), ((0, 1), 0), (1, 0), ((1, 0), None), (None, 0), ((1, None), 0), (((1, 0), 0),))

    def test_worths_that_are_none(self):
        self.refuse(WRONG, ((4, 0), 0), ((1, 4), 0), ((1, 4), 4), ((ANY, 0), 0), ((BAD, 0), 0), ((1, FAULT), 0),
                    ((1, -4), 0), ((5, 0), 0), ((-3, 0), 0), ((10 ** 39, 0), 0), (("1", 0), 0), ((1, "0"), 0))

    def test_of_anything(self):
        for rule in (RIGHT, WRONG):
            for thing in odd_things():
                self.refuse(rule, thing, (thing, 0), (thing, thing), ((thing,), 0))
                if not isinstance(thing, int) or isinstance(thing, bool):
                    self.refuse(rule, ((1, 0), thing), ((thing, 0), 0), ((1, thing), 0))


class ByDrawing(unittest.TestCase):
    def test_all_worths_and_outcomes_of_rules_by_chance(self):
        held = 0
        for at, (old, new, cond) in enumerate(chance_rules("checked", 150)):
            width = 1 + at % 2
            if ways_to_draw(("and", old, new), width) > 5000:
                continue
            rule = Rule("f", old, new, cond=cond)
            ways = wrong_worths(old, new, cond, width)
            many = len(names_of(old, "const")) + len(names_of(old, "look"))
            for worths in itertools.product(range(-3, 2 ** width + 1), repeat=many):
                for outcome in range(-4, 2 ** width + 1):
                    told = outcome in ways.get(worths, ())
                    self.assertIs(judge_holds(rule, (worths, outcome), width=width), told,
                                  (old, new, cond, worths, outcome, width))
                    held += told
        self.assertGreater(held, 200)

    def test_what_is_judged_holds(self):
        for width in (1, 2, 3):
            for old, new, cond in chance_rules("held", 80, room=8):
                rule = Rule("f", old, new, cond=cond)
                told = judged(rule, width=width)
                self.assertIs(judge_holds(rule, told, width=width), told is not None)


class Calls(unittest.TestCase):
    def test_by_places_and_names(self):
        self.assertEqual(str(inspect.signature(judge_holds)), "(rule, thing, *, width=2)")
        self.assertEqual(judge_holds.__module__, judgechecks.__name__)
        self.assertIs(judge_holds(width=2, thing=((1, 0), 0), rule=WRONG), True)
        with self.assertRaises(TypeError):
            judge_holds(WRONG, ((1, 0), 0), 2)

    def test_what_is_handed_in_stays(self):
        for thing in odd_things():
            assert_keeps(self, lambda one: judge_holds(WRONG, one), thing)
            assert_keeps(self, lambda one: judge_holds(WRONG, ((1, one), one)), thing)
        self.assertEqual(str(WRONG), "rule f sum froze a #c to froze a if unlike #c 2")

    def test_the_same_again_behind_other_calls(self):
        asked = [((1, 0), 0), ((0, 0), 0), None, ((1, True), 1), ((3, 2), 2), [1], ((2, 0), 0)]
        told = [judge_holds(WRONG, thing) for thing in asked]
        judged(WRONG)
        judge_holds(RIGHT, ((0,), 0))
        self.assertEqual([judge_holds(WRONG, thing) for thing in reversed(asked)], told[::-1])
