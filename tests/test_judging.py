"""Whether a rule is right at a width, by all words (points 2 and 11)."""

import inspect
import unittest

from poisonrules import judging
from poisonrules.judgechecks import judge_holds
from poisonrules.judging import judged
from poisonrules.rules import Rule
from poisonrules.ruletexts import read_rule

from helper import ANY, BAD, FAULT, assert_keeps, chance_rules, ways_to_draw, wrong_worths


class ByHand(unittest.TestCase):
    def check(self, text, told, width=2):
        self.assertEqual(judged(read_rule(text), width=width), told, (text, width))

    def test_right_ones(self):
        for width in (1, 2, 3, 4):
            for text in ("rule f sum a a to twice a", "rule f sum a b to sum b a", "rule f sum.u a b to sum a b",
                         "rule f xor a a to 0", "rule f froze a to froze froze a", "rule f and a #c to and #c a",
                         "rule f quot a 0 to quot a a", "rule f choice same a a b a to b"):
                self.check(text, None, width)

    def test_wrong_ones(self):
        self.check("rule f twice a to sum a a", ((ANY,), 1))
        self.check("rule f froze a to a", ((BAD,), BAD))
        self.check("rule f not a to a", ((0,), 0))
        self.check("rule f sum a b to sum.u a b", ((ANY, ANY), BAD))
        self.check("rule f and a b to or a b", ((ANY, 0), 1))

    def test_the_least_worths(self):
        self.check("rule f and a #c to #c", ((1, 0), 1))
        self.check("rule f or froze a #c to #c", ((0, 1), 0))
        self.check("rule f sum.u a #c to less a #c", ((1, 0), 3))
        self.check("rule f sum froze a #c to froze a", ((1, 0), 0))
        self.check("rule f less froze a froze b to less froze b froze a", ((0, 1), 1))

    def test_constants_go_ahead_of_inputs(self):
        self.check("rule f sum z #c to z if unlike #c 0", ((1, 0), 0))
        self.check("rule f sum a #z to a if unlike #z 0 , unlike #z 1", ((2, 0), 0))

    def test_a_fault_goes_ahead_of_all(self):
        self.check("rule f froze a to quot 1 a", ((BAD,), FAULT))
        self.check("rule f not a to quot a a", ((BAD,), FAULT))
        self.check("rule f times froze a 0 to quot 2 froze a", ((BAD,), FAULT))
        self.check("rule f times froze a 0 to quot sum.u froze a 1 froze a", ((BAD,), FAULT))
        self.check("rule f choice same a a a a to quot 2 froze a", ((BAD,), FAULT))

    def test_a_bad_goes_ahead_of_numbers(self):
        self.check("rule f times a 0 to sum.u a 1", ((ANY,), BAD))

    def test_old_that_faults_lets_all(self):
        self.check("rule f quot a 0 to sum a 1", None)
        self.check("rule f sum quot 1 0 a to quot a 0", None)

    def test_right_at_one_width_wrong_at_another(self):
        right_at = {
            "rule f sum a 1 to less a 1": (1,), "rule f right a 1 to quot a 2": (2, 3, 4),
            "rule f times a a to a": (1,), "rule f left a 2 to 0": (2,), "rule f sum a 8 to a": (1, 2, 3),
        }
        for text, widths in right_at.items():
            for width in (1, 2, 3, 4):
                told = judged(read_rule(text), width=width)
                self.assertEqual(told is None, width in widths, (text, width, told))

    def test_tests_narrow_the_constants(self):
        for width in (1, 2, 3, 4):
            self.check("rule f sum a #c to a if same #c 0", None, width)
            self.check("rule f and a #c to a if same not #c 0", None, width)
            self.check("rule f left a #c to sum #c #c if unlike #c 0 , below #c 0", None, width)
        self.check("rule f sum a #c to a if same #c 1", ((1, 0), 0))
        self.check("rule f sum a #c to a if below 0 #c", ((1, 0), 0))
        self.check("rule f sum a #c to a if under #c 0", ((2, 0), 0))
        self.check("rule f sum a #c to a if under 0 #c", ((1, 0), 0))
        self.check("rule f sum a #c to a if unlike #c 1 , unlike #c 0", ((2, 0), 0))

    def test_a_test_that_no_number_meets(self):
        for test in ("same #c not #c", "below #c #c", "under #c #c", "unlike #c #c", "same 0 1", "below #c 0"):
            self.check(f"rule f sum a #c to quot a 0 if {test}", None)
        self.check("rule f not a to quot a 0 if same 0 1", None)

    def test_without_inputs_or_names(self):
        self.check("rule f not 0 to -1", None, 4)
        self.check("rule f not 0 to 0", ((), 0), 3)
        self.check("rule f not #c to #c", ((0,), 0), 3)
        self.check("rule f sum #c #d to sum #d #c", None, 4)
        self.check("rule f less #d #c to less #c #d", ((0, 1), 7), 3)

    def test_inputs_that_new_leaves_out(self):
        self.check("rule f and b not a to b", ((1, ANY), 1))
        self.check("rule f and a not b to a", ((ANY, 1), 1))
        self.check("rule f choice same b b a 0 to a", None)
        self.check("rule f sum less.u a b b to a", None)


class ByDrawing(unittest.TestCase):
    def test_rules_by_chance(self):
        right = wrong = 0
        for at, (old, new, cond) in enumerate(chance_rules("judged", 260)):
            width = 1 + at % 3
            if ways_to_draw(("and", old, new), width) > 5000:
                continue
            ways = wrong_worths(old, new, cond, width)
            told = judged(Rule("f", old, new, cond=cond), width=width)
            if ways:
                least = min(ways)
                self.assertEqual(told, (least, ways[least][0]), (old, new, cond, width))
                wrong += 1
            else:
                self.assertIsNone(told, (old, new, cond, width))
                right += 1
        self.assertGreater(min(right, wrong), 20)


class Bounds(unittest.TestCase):
    def test_the_greatest_that_are_promised(self):
        text = "sum.us times a b xor left froze c and a b sum a c"
        self.assertIsNone(judged(read_rule(f"rule f {text} to {text}"), width=3))
        text = "choice below a b choice under a b #c a xor a b"
        self.assertIsNone(judged(read_rule(f"rule f {text} to {text}"), width=3))
        text = "sum times sum times froze sum.us a b a a left b b a"
        self.assertIsNone(judged(read_rule(f"rule f {text} to {text}"), width=4))

    def test_greater_terms(self):
        deep = read_rule(f"rule f {'not ' * 98}a to {'not ' * 99}a")
        self.assertEqual(judged(deep, width=4), ((0,), 15))


class Calls(unittest.TestCase):
    def test_by_places_and_names(self):
        rule = read_rule("rule f twice a to sum a a")
        self.assertEqual(str(inspect.signature(judged)), "(rule, *, width=2)")
        self.assertEqual(judged.__module__, judging.__name__)
        self.assertEqual(judged(rule=rule, width=2), judged(rule))
        with self.assertRaises(TypeError):
            judged(rule, 2)

    def test_kinds(self):
        worths, outcome = judged(read_rule("rule f sum a #c to a if below 0 #c"))
        self.assertEqual([one.__class__ for one in (worths, outcome, *worths)], [tuple, int, int, int])

    def test_what_is_handed_in_stays(self):
        for old, new, cond in chance_rules("keep", 20, room=5):
            rule = Rule("f", old, new, cond=cond)
            assert_keeps(self, judged, rule)
            self.assertEqual((rule.name, rule.old, rule.new, rule.cond), ("f", old, new, cond))

    def test_the_same_again_behind_other_calls(self):
        rules = [Rule("f", old, new, cond=cond) for old, new, cond in chance_rules("again", 40)]
        told = [judged(rule) for rule in rules]
        for rule, one in zip(rules, told):
            judged(rule, width=1)
            judge_holds(rule, one)
        again = [judged(Rule("g", rule.old, rule.new, cond=rule.cond)) for rule in reversed(rules)]
        self.assertEqual(again[::-1], told)
