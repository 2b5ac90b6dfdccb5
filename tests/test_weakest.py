"""The weakest machines of rules (point 17)."""

import inspect
import itertools
import unittest

from poisonrules import weakest as weakest_file
from poisonrules.errors import TooMany
from poisonrules.judging import judged
from poisonrules.machines import is_machine, least_machine, lets
from poisonrules.rules import Rule
from poisonrules.ruletexts import read_rule
from poisonrules.weakchecks import weakest_holds
from poisonrules.weakest import weakest

from helper import names_of, serial_rules, slow_sets, slow_weakest_holds

ALWAYS = ((False, (1,)), (True, (1,)))
NEVER = ((False, (1,)), (False, (1,)))


def r(text):
    return read_rule(f"rule f {text}")


def pinned(rule, numbers):
    """The rule without its tests, where the constants are these numbers alone."""
    cond = tuple(("same", ("const", name), ("num", number))
                 for name, number in zip(names_of(rule.old, "const"), numbers))
    return Rule("f", rule.old, rule.new, cond=cond)


class ByHand(unittest.TestCase):
    def check(self, text, least):
        machine, paper = weakest(r(text), most=1000)
        self.assertEqual(least_machine(machine), least, text)
        self.assertIs(is_machine(r(text), machine), True, text)
        self.assertIs(weakest_holds(r(text), machine, paper), True, text)

    def test_rules_without_constants_let_widths(self):
        self.check("sum a b to sum b a", ALWAYS)
        self.check("not a to not a", ALWAYS)
        self.check("not 0 to -1", ALWAYS)
        self.check("not a to a", NEVER)
        self.check("twice a to sum a a", NEVER)
        self.check("and a 3 to a", ((False, (1,)), (True, (2,)), (True, (3,)), (False, (3,))))
        self.check("not 3 to 4", ((False, (1,)), (True, (2,)), (True, (3,)), (True, (4,)), (False, (4,))))
        # 1 is below 2 but at width 1, where 2 is 0.
        self.check("xor a 0 to xor a choice below 1 2 0 1", ((False, (1,)), (False, (2,)), (True, (2,))))

    def test_one_constant(self):
        # 0 alone, -1 alone, all, none, all but those whose last bit is 1.
        self.check("sum a #c to a", ((False, (1, 2)), (True, (1, 2)), (False, (2, 2))))
        self.check("and a #c to a", ((False, (1, 2)), (False, (1, 1)), (True, (1, 2))))
        self.check("sum a #c to sum #c a", ((False, (1, 1)), (True, (1, 1))))
        self.check("sum a #c to xor not a #c", ((False, (1, 1)), (False, (1, 1))))
        # 0, and the number whose last bit alone is 1: there nothing is carried on.
        self.check("sum a #c to xor a #c", ((False, (1, 2)), (True, (1, 2)), (True, (3, 3)), (False, (3, 3))))

    def test_constants_that_let_at_some_widths_only(self):
        # 5, whatever is above width 3: at width 1 it is 1, at width 2 it is 1, too.
        machine, _ = weakest(r("xor a #c to xor a 5"))
        self.assertEqual([[number for number in range(2 ** width) if lets(machine, (number,), width=width)]
                          for width in (1, 2, 3, 4)], [[1], [1], [5], [5]])
        machine, _ = weakest(r("choice below #c 2 a b to a"))
        self.assertEqual([[number for number in range(2 ** width) if lets(machine, (number,), width=width)]
                          for width in (1, 2, 3, 4)], [[], [0, 1], [0, 1], [0, 1]])

    def test_two_constants(self):
        machine, paper = weakest(r("sum sum a #c #d to a"))
        for width in (1, 2, 3, 4):
            for numbers in itertools.product(range(2 ** width), repeat=2):
                self.assertIs(lets(machine, numbers, width=width), sum(numbers) % 2 ** width == 0)
        self.assertEqual(least_machine(machine), (
            (False, (1, 2, 2, 3)), (True, (1, 2, 2, 3)), (False, (2, 2, 2, 2)), (True, (2, 3, 3, 2))))
        self.assertIs(weakest_holds(r("sum sum a #c #d to a"), machine, paper), True)

    def test_constants_that_new_leaves_out(self):
        self.check("and #c 0 to 0", ((False, (1, 1)), (True, (1, 1))))
        self.check("and sum a #d and #c 0 to a", ((False, (1, 1, 1, 1)), (False, (1, 1, 1, 1))))


class AgainstJudging(unittest.TestCase):
    def check(self, rule, most=200):
        """Whether the machine tells just what judged does of the rule without tests; how many it lets."""
        try:
            machine, paper = weakest(rule, most=most)
        except TooMany:
            return None
        self.assertIs(weakest_holds(rule, machine, paper), True, rule)
        consts = names_of(rule.old, "const")
        many = 0
        for width in (1, 2, 3, 4):
            if 2 ** (width * len(consts)) * (2 ** width + 2) ** len(names_of(rule.old, "look")) > 2000:
                break
            for numbers in itertools.product(range(2 ** width), repeat=len(consts)):
                right = judged(pinned(rule, numbers), width=width) is None
                self.assertIs(lets(machine, numbers, width=width), right, (rule, numbers, width))
                many += right
        return many

    def test_rules_by_chance(self):
        some = 0
        for old, new, cond in serial_rules("weakest", 160, room=6):
            some += bool(self.check(Rule("f", old, new, cond=cond)))
        self.assertGreater(some, 40)

    def test_rules_that_let_some(self):
        for text in ("sum.u a #c to sum a #c", "sum a #c to sum.u a #c", "less.s a #c to less.us a #c",
                     "choice under a #c a #c to a",
                     "and a #c to and froze a #c", "sum #c less #d a to less #c a", "xor froze a #c to less #c froze a"):
            self.assertGreater(self.check(r(text), most=2000), 0, text)

    def test_tests_tell_nothing(self):
        for text in ("sum a #c to a if same #c 0", "sum a #c to a if unlike #c #c", "and a #c to a if below 3 #c"):
            rule = r(text)
            self.assertEqual(weakest(rule), weakest(Rule("f", rule.old, rule.new)))
            self.check(rule)


class TooManySets(unittest.TestCase):
    def test_the_very_number_and_one_below(self):
        seen = 0
        for old, new, cond in serial_rules("sets", 90, room=4):
            rule = Rule("f", old, new, cond=cond)
            many = slow_sets(old, new, 25)
            if many is None:
                with self.assertRaises(TooMany):
                    weakest(rule, most=25)
                continue
            told = weakest(rule, most=many)
            self.assertEqual(weakest(rule, most=10 ** 30), told)
            for most in (many - 1, 0, -5):
                with self.assertRaises(TooMany) as caught:
                    weakest(rule, most=most)
                self.assertEqual(caught.exception.most, most)
            seen += many > 2
        self.assertGreater(seen, 20)

    def test_sets_are_counted_whatever_is_in_them(self):
        # Hundreds of pairs, but without constants one set for each width, until they come again.
        rule = r("sum sum a b sum a b to sum sum b a sum b a")
        machine, paper = weakest(rule, most=20)
        self.assertIs(weakest_holds(rule, machine, paper), True)

    def test_a_beginning_that_comes_again_is_counted(self):
        rule = r("and a #c to and a #c")
        self.assertEqual(slow_sets(rule.old, rule.new, 50), 2)
        self.assertEqual(weakest(rule, most=2)[0], ((False, (1, 1)), (True, (1, 1))))
        with self.assertRaises(TooMany):
            weakest(rule, most=1)

    def test_200_where_it_is_left_out(self):
        rule = r("choice under #d #c #d -99 to or -99 twice.us #d")
        self.assertIs(weakest_holds(rule, *weakest(rule)), True)
        rule = r("sum froze #c sum a froze 7 to froze sum.u twice.u froze a froze #c")
        with self.assertRaises(TooMany) as caught:
            weakest(rule)
        self.assertEqual(caught.exception.most, 200)


class Papers(unittest.TestCase):
    def test_papers_against_a_slow_check(self):
        seen = 0
        for old, new, cond in serial_rules("papers", 120, room=4):
            rule = Rule("f", old, new, cond=cond)
            try:
                machine, paper = weakest(rule, most=12)
            except TooMany:
                continue
            if sum(map(len, paper)) > 40:
                continue
            self.assertIs(slow_weakest_holds(old, new, machine, paper), True, rule)
            self.assertIs(weakest_holds(rule, machine, paper), True, rule)
            for part in paper:
                self.assertEqual(list(part), sorted(set(part)))
            seen += 1
        self.assertGreater(seen, 50)

    def test_a_small_paper(self):
        machine, (keeps, shows) = weakest(r("and #c #c to #c"))
        self.assertEqual(machine, ((False, (1, 1)), (True, (1, 1))))
        self.assertEqual((keeps, shows), (((1, (), (), ((1,),)),), ()))
        machine, (keeps, shows) = weakest(r("and #c 0 to #c"))
        self.assertEqual(least_machine(machine), ((False, (1, 2)), (True, (1, 2)), (False, (2, 2))))


class Bounds(unittest.TestCase):
    def test_the_greatest_that_are_promised(self):
        for text in ("choice below a froze 7 not b #c to less.s froze #c twice.us xor a #c",
                     "sum sum a #c sum a #d to sum sum a #d sum a #c",
                     "froze froze froze froze froze froze a to froze froze froze froze froze froze a",
                     "less less.us a #c froze b to sum froze b less.u #c a"):
            rule = r(text)
            try:
                machine, paper = weakest(rule)
            except TooMany:
                continue
            self.assertIs(weakest_holds(rule, machine, paper), True, text)


class Calls(unittest.TestCase):
    def test_by_places_and_names(self):
        self.assertEqual(str(inspect.signature(weakest)), "(rule, *, most=200)")
        self.assertEqual(weakest.__module__, weakest_file.__name__)
        rule = r("sum a #c to a")
        self.assertEqual(weakest(most=50, rule=rule), weakest(rule))
        with self.assertRaises(TypeError):
            weakest(rule, 50)

    def test_the_same_again_and_what_is_handed_in_stays(self):
        rules = [Rule("f", old, new, cond=cond) for old, new, cond in serial_rules("again", 30, room=4)]
        ahead = [str(rule) for rule in rules]

        def told(rule):
            try:
                return weakest(rule, most=20)
            except TooMany as refused:
                return refused.most

        first = [told(rule) for rule in rules]
        again = [told(Rule("g", rule.old, rule.new, cond=rule.cond)) for rule in reversed(rules)]
        self.assertEqual(again[::-1], first)
        self.assertEqual([str(rule) for rule in rules], ahead)
