"""Whether serial rules are right at every width (point 15)."""

import inspect
import unittest

from poisonrules import proving
from poisonrules.errors import TooMany
from poisonrules.judging import judged
from poisonrules.proofchecks import against_holds, paper_holds
from poisonrules.proving import decide
from poisonrules.rules import Rule
from poisonrules.ruletexts import read_rule

from helper import all_standings, serial_rules, slow_against, slow_decide, slow_is_kept, slow_layers


def r(text):
    return read_rule(f"rule f {text}")


def most_pairs(rule):
    """The most pairs that come by some standing."""
    return max(sum(map(len, slow_layers(rule.old, rule.new, rule.cond, standing, 500)))
               for standing in all_standings(rule.old))


class ByHand(unittest.TestCase):
    def test_right_ones(self):
        for text in ("sum a a to twice a", "sum a b to sum b a", "sum.u a b to sum a b", "xor a a to 0",
                     "froze a to froze froze a", "and a #c to and #c a", "less a b to sum a sum not b 1",
                     "choice same a a b a to b", "not not a to a", "not 0 to -1", "sum a #c to a if same #c 0",
                     "choice below a #c a #c to choice below #c a #c a if same #c -1", "sum 1 1 to 2", "not 3 to -4"):
            told = decide(r(text), most=2000)
            self.assertEqual((told[0], len(told)), ("right", 2), text)
            self.assertIs(paper_holds(r(text), told[1]), True, text)

    def test_the_papers_of_small_rules(self):
        self.assertEqual(decide(r("and a a to a"))[1][0], (((), ((1,),)),))
        # An ANY one lets old look again: so its bit may be another one than new's.
        self.assertEqual(decide(r("not a to not a"))[1],
                         ((((), ((1,),)),), (((), ((0,), (1,))),), (((), ((1,),)),)))

    def test_wrong_ones(self):
        for text, told in {
            "twice a to sum a a": ("wrong", (1,), ((0, 1),)),
            "not a to a": ("wrong", (0,), ((0,),)),
            "froze a to a": ("wrong", (2,), ((),)),
            "and a 3 to a": ("wrong", (0,), ((0,), (0,), (1,))),
            "sum a 4 to a": ("wrong", (0,), ((0,), (0,), (0,))),
            "and a b to or a b": ("wrong", (0, 0), ((0, 1),)),
            "and a #c to a": ("wrong", (0,), ((1, 0),)),
            "sum a b to sum.u a b": ("wrong", (0, 0), ((1, 1),)),
            "less a b to less.s a b": ("wrong", (0, 0), ((0, 1),)),
            "and froze a b to and a b": ("wrong", (2, 0), ((0,),)),
        }.items():
            self.assertEqual(decide(r(text)), told, text)

    def test_letters_without_bits(self):
        self.assertEqual(decide(r("not 0 to 0")), ("wrong", (), ((),)))
        self.assertEqual(decide(r("not 3 to 4")), ("wrong", (), ((), (), (), ())))
        self.assertEqual(decide(r("sum 1 1 to 10")), ("wrong", (), ((), (), (), ())))

    def test_tests_that_hold_at_some_numbers_only(self):
        self.assertEqual(decide(r("sum a #c to a if below #c 1"))[0], "right")
        self.assertEqual(decide(r("and a #c to or a #c if same #c not #c"))[0], "right")
        # At width 1 nothing is below 2, as this is 0 there.
        self.assertEqual(decide(r("sum a #c to a if below #c 2")), ("wrong", (0,), ((0, 1), (0, 0))))
        self.assertEqual(decide(r("sum a #c to a if below #c 4")), ("wrong", (0,), ((0, 0), (0, 1), (0, 0))))
        self.assertEqual(decide(r("sum a #c to a if under #c 1 , below #c 3")), ("wrong", (0,), ((0, 0), (0, 1))))
        self.assertEqual(decide(r("and a #c to a if unlike #c -1 , below -3 #c")), ("wrong", (0,), ((1, 0), (0, 1))))

    def test_right_at_widths_1_and_2_and_wrong_later(self):
        for text, width in (("and a 3 to a", 3), ("sum a 4 to a", 3), ("sum a 8 to a", 4), ("or a -8 to a", 4),
                            ("sum a 99 to sum a 3", 6), ("and a #c to a if same #c 7", 4)):
            told = decide(r(text), most=2000)
            self.assertEqual((told[0], len(told[2])), ("wrong", width), text)
            for less in range(1, min(width, 5)):
                self.assertIsNone(judged(r(text), width=less), text)

    def test_the_fewest_letters_go_ahead_of_the_least_standing(self):
        # By a number it is wrong at two bits, by an ANY one at the first.
        self.assertEqual(decide(r("twice a to sum a xor a 2")), ("wrong", (1,), ((0, 1),)))
        # Without a look at the second one: so at two bits, first by two numbers.
        self.assertEqual(decide(r("sum twice a and b 0 to sum twice a 2")), ("wrong", (0, 0), ((0, 0), (0, 0))))

    def test_the_least_letters(self):
        self.assertEqual(decide(r("and sum a #c 2 to 0")), ("wrong", (0,), ((0, 0), (0, 1))))
        self.assertEqual(decide(r("froze a to not froze a")), ("wrong", (0,), ((0, 0),)))
        # By the number 0, whatever the froze's bit is: least by its 0.
        self.assertEqual(decide(r("and froze a 0 to froze a")), ("wrong", (0,), ((1, 0),)))

    def test_by_several_beginnings(self):
        # By g 0 it is wrong where a is 1, by g 1 where it is another one: of both the least letters are told.
        self.assertEqual(decide(r("choice same a 1 1 0 to choice same a 1 0 1")), ("wrong", (0,), ((0,),)))
        self.assertEqual(decide(r("choice same a 1 1 0 to choice same a 1 0 0")), ("wrong", (0,), ((1,),)))
        self.assertEqual(decide(r("choice same a 1 1 0 to choice same a 1 1 2")), ("wrong", (0,), ((0,), (0,))))


class ByWalkingAll(unittest.TestCase):
    def test_against_a_slow_search(self):
        seen = {"right": 0, "wrong": 0, "many": 0}
        for old, new, cond in serial_rules("decide", 250):
            rule = Rule("f", old, new, cond=cond)
            slow = slow_decide(old, new, cond, limit=30)
            if slow is None:
                with self.assertRaises(TooMany) as caught:
                    decide(rule, most=30)
                self.assertEqual(caught.exception.most, 30)
                seen["many"] += 1
                continue
            (kind, *rest), many = slow
            told = decide(rule, most=many)
            self.assertEqual(decide(rule), told)
            seen[kind] += 1
            if kind == "wrong":
                self.assertEqual(told, ("wrong", *rest), rule)
            else:
                self.assertEqual((told[0], len(told[1])), ("right", len(all_standings(old))), rule)
                for standing, kept in zip(all_standings(old), told[1]):
                    self.assertIs(slow_is_kept(old, new, cond, standing, kept), True, rule)
                    self.assertEqual(list(kept), sorted(set(kept)))
            # Ahead of both, at one below the very number.
            with self.assertRaises(TooMany) as caught:
                decide(rule, most=many - 1)
            self.assertEqual(caught.exception.most, many - 1)
        self.assertGreater(min(seen.values()), 20, seen)

    def test_against_judging_at_widths_1_to_3(self):
        right = wrong = 0
        for old, new, cond in serial_rules("by words", 150, room=6):
            rule = Rule("f", old, new, cond=cond)
            try:
                told = decide(rule, most=1000)
            except TooMany:
                continue
            if told[0] == "right":
                right += 1
                self.assertIs(paper_holds(rule, told[1]), True, rule)
                for width in (1, 2, 3):
                    self.assertIsNone(judged(rule, width=width), rule)
            else:
                wrong += 1
                self.assertIs(against_holds(rule, told[1:]), True, rule)
                self.assertIs(slow_against(old, new, cond, *told[1:]), True, rule)
                for width in range(1, min(4, len(told[2]) + 1)):
                    self.assertEqual(judged(rule, width=width) is None, width < len(told[2]), (rule, width))
        self.assertGreater(min(right, wrong), 15)


class TooManyPairs(unittest.TestCase):
    def test_the_very_number_and_one_below(self):
        for text in ("sum a b to sum b a", "and a 3 to a", "sum a #c to a if below #c 3", "froze a to froze a"):
            many = most_pairs(r(text))
            self.assertEqual(decide(r(text), most=many), decide(r(text), most=10 ** 6))
            for most in (many - 1, 1, 0, -1, -(10 ** 30)):
                with self.assertRaises(TooMany) as caught:
                    decide(r(text), most=most)
                self.assertEqual(caught.exception.most, most)

    def test_it_goes_ahead_of_what_is_wrong_at_once(self):
        rule = r("sum sum a b sum a b to not sum sum a a b")
        for most in (3, 200):
            with self.assertRaises(TooMany):
                decide(rule, most=most)
        self.assertEqual(decide(rule, most=5000), ("wrong", (0, 0), ((0, 0),)))

    def test_pairs_that_do_not_stand_count_and_beginnings_do_not(self):
        # One pair behind a letter, from which all letters lead to it again; it does not stand.
        self.assertEqual(most_pairs(r("not 0 to 0")), 1)
        self.assertEqual(decide(r("not 0 to 0"), most=1), ("wrong", (), ((),)))
        with self.assertRaises(TooMany):
            decide(r("not 0 to 0"), most=0)

    def test_by_one_standing_only(self):
        rule = r("sum a b to sum b a")
        counts = [sum(map(len, slow_layers(rule.old, rule.new, (), standing, 500)))
                  for standing in all_standings(rule.old)]
        self.assertLess(min(counts), max(counts))
        with self.assertRaises(TooMany):
            decide(rule, most=max(counts) - 1)
        self.assertEqual(decide(rule, most=max(counts))[0], "right")

    def test_200_where_it_is_left_out(self):
        rule = r("sum sum a b sum a b to sum sum b a sum b a")
        with self.assertRaises(TooMany) as caught:
            decide(rule)
        self.assertEqual(caught.exception.most, 200)
        self.assertEqual(decide(rule, most=2000)[0], "right")


class Bounds(unittest.TestCase):
    def test_the_greatest_that_are_promised(self):
        frozes = "froze froze froze froze froze froze a"
        for text in (f"{frozes} to {frozes}", "sum sum a b sum a #c to sum sum a b sum a #c",
                     "choice under froze a a b twice b to choice under froze a a b twice b",
                     "choice under a froze twice.s a 99 b to and sum.u b twice a not -2"):
            told = decide(r(text), most=5000)
            if told[0] == "right":
                self.assertIs(paper_holds(r(text), told[1]), True)
            else:
                self.assertIs(against_holds(r(text), told[1:]), True)


class Calls(unittest.TestCase):
    def test_by_places_and_names(self):
        self.assertEqual(str(inspect.signature(decide)), "(rule, *, most=200)")
        self.assertEqual(decide.__module__, proving.__name__)
        rule = r("twice a to sum a a")
        self.assertEqual(decide(most=50, rule=rule), decide(rule))
        with self.assertRaises(TypeError):
            decide(rule, 50)

    def test_kinds(self):
        self.assertEqual(repr(decide(r("twice a to sum a a"))), "('wrong', (1,), ((0, 1),))")
        self.assertEqual(repr(decide(r("not 0 to -1"))), "('right', ((((-1,), ((1, 0),)),),))")

    def test_the_same_again_and_what_is_handed_in_stays(self):
        rules = [Rule("f", old, new, cond=cond) for old, new, cond in serial_rules("again", 30, room=4)]
        ahead = [str(rule) for rule in rules]

        def told(rule):
            try:
                return decide(rule, most=60)
            except TooMany as refused:
                return refused.most

        first = [told(rule) for rule in rules]
        again = [told(Rule("g", rule.old, rule.new, cond=rule.cond)) for rule in reversed(rules)]
        self.assertEqual(again[::-1], first)
        self.assertEqual([str(rule) for rule in rules], ahead)
