"""Rules (points 2 and 10)."""

import inspect
import unittest

from poisonrules import rules
from poisonrules.errors import NoRule, RuleError
from poisonrules.rules import Rule

from helper import A, B, C, D, assert_keeps, chance_rules, nested, num, odd_things, within

OLD = ("sum", "u", A, C)
NEW = ("less", "", A, ("not", C))
COND = (("below", C, num(3)), ("unlike", ("twice", "", C), num(0)))
TEXT = "rule f sum.u a #c to less a not #c if below #c 3 , unlike twice #c 0"


def made():
    return Rule("f", OLD, NEW, cond=COND)


class Fields(unittest.TestCase):
    def test_as_handed_in(self):
        rule = made()
        self.assertEqual((rule.name, rule.old, rule.new, rule.cond), ("f", OLD, NEW, COND))

    def test_cond_left_out(self):
        self.assertEqual(Rule("f", OLD, NEW).cond, ())

    def test_by_places_and_names(self):
        self.assertEqual(Rule(cond=COND, new=NEW, old=OLD, name="f"), made())
        self.assertEqual(Rule("f", OLD, cond=COND, new=NEW), made())
        with self.assertRaises(TypeError):
            Rule("f", OLD, NEW, COND)
        self.assertEqual(str(inspect.signature(Rule)), "(name, old, new, *, cond=())")
        self.assertEqual(Rule.__module__, rules.__name__)

    def test_its_methods_are_its_own(self):
        for word in ("__init__", "__len__", "__eq__", "__str__", "__repr__"):
            self.assertIn(word, vars(Rule))


class Signs(unittest.TestCase):
    def test_len(self):
        self.assertEqual(len(made()), 7)
        self.assertEqual(len(Rule("f", ("not", A), A)), 3)
        self.assertEqual(len(Rule("f", ("choice", ("same", A, C), B, num(0)), num(1))), 6)
        for old, new, cond in chance_rules("len", 50, room=9):
            self.assertEqual(len(Rule("f", old, new, cond=cond)), len(within(old)) + len(within(new)))

    def test_equal(self):
        self.assertTrue(made() == made())
        self.assertFalse(made() != made())

    def test_unlike_in_one_field(self):
        others = [Rule("g", OLD, NEW, cond=COND), Rule("f", ("sum", "s", A, C), NEW, cond=COND),
                  Rule("f", OLD, A, cond=COND), Rule("f", OLD, NEW, cond=COND[:1]), Rule("f", OLD, NEW),
                  Rule("f", OLD, NEW, cond=COND[::-1]), Rule("f", OLD, NEW, cond=COND + COND[:1])]
        for other in others:
            self.assertFalse(made() == other)
            self.assertFalse(other == made())
            self.assertTrue(made() != other)
            self.assertTrue(other != made())

    def test_other_kinds(self):
        for thing in [*odd_things(), TEXT, ("f", OLD, NEW, COND), OLD, "f"]:
            self.assertIs(made() == thing, False)
            self.assertIs(thing == made(), False)
            self.assertIs(made() != thing, True)
            self.assertIs(thing != made(), True)

    def test_text(self):
        self.assertEqual(str(made()), TEXT)
        self.assertEqual(str(Rule("dbl", ("sum", "", A, A), ("twice", "", A))), "rule dbl sum a a to twice a")
        self.assertEqual(str(Rule("f", ("and", A, C), num(-1), cond=(("same", C, num(0)),))),
                         "rule f and a #c to -1 if same #c 0")
        three = Rule("f", ("and", A, C), A, cond=(("same", C, C), ("under", C, num(1)), ("below", num(2), C)))
        self.assertEqual(str(three), "rule f and a #c to a if same #c #c , under #c 1 , below 2 #c")

    def test_repr(self):
        self.assertEqual(repr(made()), f"Rule({TEXT})")
        self.assertEqual(repr([Rule("dbl", ("not", A), A)]), "[Rule(rule dbl not a to a)]")


class Refused(unittest.TestCase):
    def refuse(self, *given, **more):
        with self.assertRaises(NoRule, msg=(given, more)) as caught:
            Rule(*given, **more)
        self.assertIs(caught.exception.__class__, NoRule)
        self.assertIsInstance(caught.exception, RuleError)
        self.assertIsInstance(caught.exception, ValueError)

    def test_names(self):
        for name in ("", "rule", "sum", "abcdefghi", "F", "f1", "a b", None, True, 1, ["f"], ("f",)):
            self.refuse(name, OLD, NEW)
        for name in ("a", "abcdefgh", "c"):
            self.assertEqual(Rule(name, OLD, NEW).name, name)

    def test_old_is_no_look_const_num(self):
        for old in (A, C, num(0)):
            self.refuse("f", old, num(0))
        for new in (A, C, num(0)):
            self.assertEqual(Rule("f", OLD, new).new, new)

    def test_inputs_of_new(self):
        self.refuse("f", OLD, B)
        self.refuse("f", OLD, ("sum", "", A, ("not", B)))
        self.refuse("f", OLD, ("look", "c"))
        self.refuse("f", ("not", num(1)), A)

    def test_constants_of_new(self):
        self.refuse("f", OLD, D)
        self.refuse("f", OLD, ("sum", "", A, ("not", D)))
        self.refuse("f", OLD, ("const", "a"))

    def test_constants_of_cond(self):
        for test in [("same", D, C), ("same", C, D), ("same", C, ("not", D)), ("same", ("const", "a"), C)]:
            self.refuse("f", OLD, NEW, cond=(test,))
            self.refuse("f", OLD, NEW, cond=(COND[0], test))
        self.refuse("f", ("not", A), A, cond=(("same", C, C),))

    def test_tests_of_nums_alone(self):
        self.assertEqual(len(Rule("f", ("not", A), A, cond=(("same", num(0), num(1)),))), 3)

    def test_conds(self):
        for cond in (None, [], [COND[0]], {}, "", COND[0], (list(COND[0]),), (COND,), (("same", A, C),), (None,), ((),),
                     (("above", C, C),), (("same", C),), (("same", ("sum", "u", C, C), C),), True, 0, (COND[0], None)):
            self.refuse("f", OLD, NEW, cond=cond)

    def test_lists_in_the_place_of_tuples(self):
        self.refuse("f", list(OLD), NEW)
        self.refuse("f", OLD, list(NEW))
        self.refuse("f", ("not", list(A)), A)

    def test_truths_in_the_place_of_numbers(self):
        self.refuse("f", ("and", A, num(True)), A)
        self.refuse("f", ("and", A, C), num(False))
        self.refuse("f", OLD, NEW, cond=(("same", C, num(True)),))

    def test_of_anything(self):
        for thing in odd_things():
            if thing != ():
                self.refuse("f", OLD, NEW, cond=thing)
            self.refuse(thing if thing != "a" else "", OLD, NEW)
            self.refuse("f", thing, NEW)
            self.refuse("f", OLD, thing)
            self.refuse("f", OLD, NEW, cond=(thing,))
            self.refuse(thing, thing, thing, cond=thing)


class Else(unittest.TestCase):
    def test_greater_than_the_bounds(self):
        deep = nested(3000, lambda one: ("not", one), ("and", A, C))
        rule = Rule("f", deep, deep, cond=COND * 20)
        self.assertEqual((len(rule), len(rule.cond)), (6006, 40))
        wide = ("and", A, B)
        for name in "defgh":
            wide = ("or", wide, ("xor", ("look", name), ("const", name)))
        self.assertEqual(Rule("f", wide, wide).old, wide)

    def test_what_is_handed_in_stays(self):
        for thing in odd_things():
            assert_keeps(self, lambda one: Rule(one, one, one, cond=one), thing)
            assert_keeps(self, lambda one: Rule("f", OLD, NEW, cond=one), thing)
            assert_keeps(self, lambda one: Rule("f", ("not", one), one), thing)
        for given in chance_rules("stay", 30):
            assert_keeps(self, lambda one: Rule("f", one[0], one[1], cond=one[2]), given)

    def test_the_same_again(self):
        asked = chance_rules("again", 50)
        told = [(str(Rule("f", old, new, cond=cond)), len(Rule("f", old, new))) for old, new, cond in asked]
        self.assertRaises(NoRule, Rule, "f", A, A)
        self.assertEqual([(str(Rule("f", old, new, cond=cond)), len(Rule("f", old, new))) for old, new, cond in asked],
                         told)
