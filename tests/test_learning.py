"""Which tests of a menu make a rule right (point 18)."""

import inspect
import itertools
import random
import unittest

from poisonrules import learning
from poisonrules.errors import TooMany
from poisonrules.learning import learnt
from poisonrules.proving import decide
from poisonrules.rules import Rule
from poisonrules.ruletexts import read_rule

from helper import chance_test, names_of, serial_rules


def r(text):
    return read_rule(f"rule f {text}")


def menu(*texts):
    """The tests of these texts, which may have the constants c and d."""
    return r("sum #c #d to 0 if " + " , ".join(texts)).cond


def by_asking_all(rule, tests, most):
    """What learnt tells, by deciding choices from the shorter ones on."""
    right = []
    for many in range(len(tests) + 1):
        for choice in itertools.combinations(range(len(tests)), many):
            if not any(set(one) <= set(choice) for one in right):
                cond = tuple(tests[at] for at in choice)
                if decide(Rule("g", rule.old, rule.new, cond=cond), most=most)[0] == "right":
                    right.append(choice)
    return tuple(sorted(right))


class ByHand(unittest.TestCase):
    def check(self, text, tests, told):
        self.assertEqual(learnt(r(text), menu(*tests) if tests else (), most=1000), told, (text, tests))

    def test_a_rule_that_is_right_anyway(self):
        for tests in ((), ("same #c 0",), ("same #c 0", "below #c 3", "same #d #c", "unlike #c #c")):
            self.check("sum #c #d to sum #d #c", tests, ((),))

    def test_no_choice_is_right(self):
        self.check("sum a #c to not a", (), ())
        self.check("sum a #c to not a", ("same #c 0", "below #c 3"), ())
        self.check("sum sum a #c #d to a", ("same #c 0",), ())

    def test_one_test_is_enough(self):
        self.check("sum a #c to a", ("below #c 3", "same #c 0"), ((1,),))
        self.check("sum a #c to a", ("same #c 0", "below #c 3", "below #c 1", "same #c sum #c #c"), ((0,), (2,), (3,)))
        self.check("and a #c to a", ("same #c 0", "same not #c 0"), ((1,),))

    def test_two_tests_together_only(self):
        self.check("sum sum a #c #d to a", ("same #c 0", "same #d 0"), ((0, 1),))
        self.check("sum sum a #c #d to a", ("same #c 0", "same #d 0", "below #c 5", "same #d #c"), ((0, 1), (0, 3), (1, 3)))

    def test_shorter_and_longer_ones_rise(self):
        tests = ("same #c 0", "same sum #c #d 0", "same #d 0")
        self.check("sum sum a #c #d to a", tests, ((0, 2), (1,)))
        self.check("sum sum a #c #d to a", tests[::-1], ((0, 2), (1,)))

    def test_tests_that_nothing_meets(self):
        self.check("sum a #c to not a", ("unlike #c #c", "same #c 0"), ((0,),))
        # Each of the two is met, both together are not.
        self.check("sum a #c to not a", ("below #c 1", "unlike #c 0"), ((0, 1),))

    def test_the_same_test_twice(self):
        self.check("sum a #c to a", ("same #c 0", "same #c 0"), ((0,), (1,)))
        self.check("sum sum a #c #d to a", ("same #c 0", "same #d 0", "same #c 0"), ((0, 1), (1, 2)))
        self.check("sum a #c to not a", ("same #c 0", "same #c 0"), ())

    def test_three_and_four_tests_together(self):
        tests = ("unlike #c 1", "unlike #c 2", "unlike #c 3")
        text = "choice below #c 4 sum a #c a to a"
        self.assertEqual(learnt(r(text), menu(*tests), most=2000), by_asking_all(r(text), menu(*tests), 2000))
        # At widths above 2 there are others below 4, at these a 0 is 4.
        tests = ("unlike #c 0", "unlike #c 1", "below #c 3", "unlike #c 2")
        self.check("xor a #c to not sum a 5", tests, ((0, 1, 2, 3),))

    def test_the_tests_of_the_rule_itself_tell_nothing(self):
        for cond in ("", " if same #c 0", " if unlike #c #c , below #c 2"):
            self.check("sum a #c to a" + cond, ("below #c 3", "same #c 0"), ((1,),))
            self.check("sum a #c to a" + cond, ("below #c 3",), ())


class ByChance(unittest.TestCase):
    def test_against_asking_all(self):
        chance = random.Random("menus")
        seen = {}
        for old, new, cond in serial_rules("learnt", 300, room=4, tests=False):
            names = names_of(old, "const")
            if not names:
                continue
            rule = Rule("f", old, new)
            tests = tuple(chance_test(chance, names) for _ in range(chance.randrange(5)))
            try:
                told = by_asking_all(rule, tests, 60)
            except TooMany:
                with self.assertRaises(TooMany) as caught:
                    learnt(rule, tests, most=60)
                self.assertEqual(caught.exception.most, 60)
                continue
            self.assertEqual(learnt(rule, tests, most=60), told, (rule, tests))
            kind = max(map(len, told), default=-1)
            seen[kind] = seen.get(kind, 0) + 1
        self.assertGreater(min(seen[kind] for kind in (-1, 0, 1)), 5, seen)


class TooManyPairs(unittest.TestCase):
    def most_needed(self, rule):
        return next(most for most in range(10 ** 4) if not self.refuses(lambda: decide(rule, most=most)))

    def refuses(self, call):
        try:
            call()
        except TooMany:
            return True
        return False

    def test_of_a_choice_that_is_asked(self):
        rule = r("and a #c to a")
        tests = menu("same #c -1", "under #c 9")
        needed = [self.most_needed(Rule("f", rule.old, rule.new, cond=tuple(tests[at] for at in choice)))
                  for choice in ((), (0,), (1,), (0, 1))]
        # With both there are the most pairs; but that is not asked, as (0,) is right.
        self.assertGreater(needed[3], max(needed[:3]))
        self.assertEqual(learnt(rule, tests, most=max(needed[:3])), ((0,),))
        for most in (max(needed[:3]) - 1, 1, 0, -1):
            with self.assertRaises(TooMany) as caught:
                learnt(rule, tests, most=most)
            self.assertEqual(caught.exception.most, most)

    def test_choices_with_a_right_one_among_theirs_are_not_asked(self):
        rule = r("sum a #c to sum #c a")
        tests = menu("below sum #c 99 sum #c 98", "below sum #c -77 sum #c 51")
        self.assertTrue(self.refuses(lambda: decide(Rule("f", rule.old, rule.new, cond=tests), most=60)))
        self.assertEqual(learnt(rule, tests, most=60), ((),))

    def test_200_where_it_is_left_out(self):
        rule = r("sum sum a b sum a #c to sum sum b a sum #c a")
        with self.assertRaises(TooMany) as caught:
            learnt(rule, ())
        self.assertEqual(caught.exception.most, 200)
        self.assertEqual(learnt(rule, (), most=5000), ((),))


class Calls(unittest.TestCase):
    def test_by_places_and_names(self):
        self.assertEqual(str(inspect.signature(learnt)), "(rule, menu, *, most=200)")
        self.assertEqual(learnt.__module__, learning.__name__)
        rule, tests = r("sum a #c to a"), menu("below #c 3", "same #c 0")
        self.assertEqual(learnt(most=50, menu=tests, rule=rule), ((1,),))
        self.assertEqual(repr(learnt(rule, tests)), "((1,),)")
        with self.assertRaises(TypeError):
            learnt(rule, tests, 50)

    def test_the_same_again_and_what_is_handed_in_stays(self):
        rules = [r(text) for text in ("sum a #c to a", "and a #c to a if same #c 0", "sum a #c to less a #c")]
        tests = menu("same #c 0", "same not #c 0", "below #c 2", "same sum #c #c 0")
        ahead = repr((rules, tests))
        told = [learnt(rule, tests, most=500) for rule in rules]
        self.assertEqual([learnt(rule, tests, most=500) for rule in reversed(rules)][::-1], told)
        self.assertEqual(repr((rules, tests)), ahead)
