"""Letters, beginnings, and what pairs come to and stand by (point 14)."""

import inspect
import itertools
import random
import unittest

from poisonrules import walking
from poisonrules.rules import Rule
from poisonrules.ruletexts import read_rule
from poisonrules.walking import beginnings, come_by, letters_of, stands

from helper import (
    STATED, all_standings, names_of, serial_rules, slow_beginnings, slow_come_by, slow_letters, slow_stands, within)


def r(text):
    return read_rule(f"rule f {text}")


def bits(text):
    return tuple(int(sign) for sign in text)


def chance_state(chance, term):
    """A state from anywhere."""
    found = []
    for one in within(term):
        if one[0] == "num":
            found.append(one[1] >> chance.randrange(9))
        elif one[0] in STATED:
            found.append(chance.randrange({"froze": 2, "choice": 12}.get(one[0], 4)))
    return tuple(found)


def chance_pair(chance, old, new, cond):
    """A pair from anywhere, perhaps with no olds."""
    tested = ()
    for _, *sides in cond:
        tested += (chance.randrange(6), *chance_state(chance, sides[0]), *chance_state(chance, sides[1]))
    olds = {(chance.randrange(2), *chance_state(chance, old)) for _ in range(chance.choice((0, 1, 2, 5)))}
    return tested + chance_state(chance, new), tuple(sorted(olds))


class Letters(unittest.TestCase):
    def check(self, text, standing, many):
        told = letters_of(r(text), standing)
        self.assertEqual(told, tuple(itertools.product((0, 1), repeat=many)), (text, standing))

    def test_numbers_constants_and_mixed_ones(self):
        for standing, many in (((0,), 1), ((1,), 2), ((2,), 0)):
            self.check("twice a to sum a a", standing, many)
            self.check("sum sum a #c #d to sum #d sum a a", standing, many + 2)
        self.check("sum a b to froze a", (0, 0), 3)
        self.check("sum a b to froze a", (1, 0), 3)
        self.check("sum a b to froze a", (1, 1), 2)
        self.check("sum a b to froze a", (2, 2), 1)
        self.check("sum a b to froze froze froze b", (2, 1), 4)

    def test_no_bits_at_all(self):
        self.check("not 0 to -1", (), 0)
        self.check("not a to 5", (2,), 0)
        self.check("not a to 5", (1,), 0)
        self.assertEqual(letters_of(r("not 0 to -1"), ()), ((),))

    def test_tests_bring_no_bits(self):
        self.check("sum a #c to a if same #c 3 , below #c sum #c #c", (1,), 2)

    def test_against_slow_ones(self):
        for old, new, cond in serial_rules("letters", 60):
            for standing in all_standings(old):
                told = letters_of(Rule("f", old, new, cond=cond), standing)
                self.assertEqual(list(told), slow_letters(old, new, standing))


class Beginnings(unittest.TestCase):
    def test_by_hand(self):
        self.assertEqual(beginnings(r("twice a to sum a a")), (((0,), ((1, 0),)),))
        self.assertEqual(beginnings(r("not a to a")), (((), ((1,),)),))
        self.assertEqual(beginnings(r("froze a to froze a")), (((0,), ((1, 0), (1, 1))), ((1,), ((1, 0), (1, 1)))))
        self.assertEqual(beginnings(r("sum a #c to froze 7 if below #c -3 , unlike not #c sum #c 1")),
                         (((0, -3, 0, 0, 1, 0, 7), ((1, 0),)), ((0, -3, 0, 0, 1, 1, 7), ((1, 0),))))
        self.assertEqual(beginnings(r("choice same a 0 a 1 to a")), (((), ((1, 0, 0, 1), (1, 6, 0, 1))),))

    def test_against_slow_ones(self):
        for old, new, cond in serial_rules("beginnings", 100, room=7):
            told = beginnings(Rule("f", old, new, cond=cond))
            self.assertEqual(list(told), slow_beginnings(old, new, cond))
            self.assertEqual(list(told), sorted(set(told)))


class ComeBy(unittest.TestCase):
    def check(self, text, standing, pair, letter, told):
        self.assertEqual(come_by(r(text), standing, pair, bits(letter)), told, (text, standing, pair, letter))

    def test_numbers(self):
        text = "twice a to sum a a"
        self.check(text, (0,), ((0,), ((1, 0),)), "0", ((0,), ((1, 0),)))
        self.check(text, (0,), ((0,), ((1, 0),)), "1", ((1,), ((1, 1),)))
        self.check(text, (0,), ((1,), ((1, 1),)), "0", ((2,), ((1, 2),)))
        self.check(text, (0,), ((0,), ((1, 1),)), "0", ((0,), ((0, 2),)))

    def test_looks_at_any_come_each_for_itself(self):
        text = "sum a a to twice a"
        # Old may look at 0 and 0, 0 and 1, 1 and 0, 1 and 1: its bit is new's where these are alike.
        self.check(text, (1,), ((0,), ((1, 0),)), "1", ((1,), ((0, 0), (1, 0), (1, 1))))
        self.check("twice a to sum a a", (1,), ((0,), ((1, 0),)), "01", ((0,), ((0, 0), (0, 1))))
        self.check("twice a to sum a a", (1,), ((0,), ((1, 0),)), "11", ((1,), ((1, 0), (1, 1))))

    def test_bad_ones_have_0(self):
        self.check("not a to a", (2,), ((), ((1,),)), "", ((), ((0,),)))
        self.check("sum not a b to not a", (2, 0), ((), ((1, 0),)), "0", ((), ((1, 0),)))
        self.check("sum not a b to not a", (2, 0), ((), ((1, 0),)), "1", ((), ((0, 1),)))

    def test_frozes_of_old_are_any_and_those_of_new_the_letters(self):
        text = "froze a to froze a"
        olds = ((1, 0), (1, 1))
        self.check(text, (0,), ((0,), olds), "00", ((0,), ((0, 1), (1, 0), (1, 1))))
        self.check(text, (0,), ((0,), olds), "10", ((0,), ((0, 1), (1, 0), (1, 1))))
        self.check(text, (0,), ((1,), olds), "10", ((1,), ((0, 0), (0, 1), (1, 1))))
        self.check(text, (2,), ((1,), ((1, 1),)), "1", ((1,), ((0, 1), (1, 1))))
        self.check(text, (2,), ((1,), ((1, 0),)), "1", ((1,), ((0, 0),)))

    def test_mixed_bits_stand_as_written(self):
        text = "sum sum a b #c to less froze a sum b a"
        # b's number, the constant; then the froze, a in it, the a behind b.
        self.check(text, (1, 0), ((0, 1, 0), ()), "10" + "101", ((0, 1, 1), ()))
        self.check(text, (1, 0), ((0, 1, 0), ()), "10" + "100", ((0, 1, 0), ()))
        self.check(text, (1, 0), ((0, 0, 0), ()), "10" + "100", ((1, 0, 0), ()))

    def test_marks_go_where_bits_are_unlike_and_do_not_come_back(self):
        text = "not a to a"
        self.check(text, (0,), ((), ((1,),)), "1", ((), ((0,),)))
        self.check("not not a to a", (0,), ((), ((0,), (1,))), "1", ((), ((0,), (1,))))
        self.check("not not a to a", (0,), ((), ((0,),)), "1", ((), ((0,),)))

    def test_no_olds(self):
        self.check("twice a to sum a a", (1,), ((3,), ()), "10", ((3,), ()))
        self.check("twice a to sum a a", (0,), ((3,), ()), "0", ((2,), ()))

    def test_tests_read_on(self):
        text = "sum a #c to a if below #c 2 , unlike sum #c #c #c"
        self.check(text, (2,), ((0, 2, 0, 0), ((1, 0),)), "1", ((5, 1, 3, 1), ((0, 0),)))
        self.check(text, (2,), ((5, 1, 3, 1), ((1, 0),)), "0", ((3, 0, 5, 2), ((1, 0),)))
        # 1 is told by no bits, yet may be handed in.
        self.check(text, (2,), ((1, 0, 1, 0), ((0, 0),)), "0", ((0, 0, 0, 0), ((0, 0),)))

    def test_an_input_called_like_a_constant(self):
        self.check("sum c #c to xor c #c", (0,), ((), ((1, 0),)), "10", ((), ((1, 0),)))
        self.check("sum c #c to and c #c", (2,), ((), ((1, 0),)), "1", ((), ((0, 0),)))

    def test_from_anywhere_against_a_slow_walk(self):
        chance = random.Random("come")
        for old, new, cond in serial_rules("come", 150):
            rule = Rule("f", old, new, cond=cond)
            for standing in all_standings(old):
                letter = chance.choice(letters_of(rule, standing))
                pair = chance.choice([*beginnings(rule), chance_pair(chance, old, new, cond)])
                told = come_by(rule, standing, pair, letter)
                self.assertEqual(told, slow_come_by(old, new, cond, standing, pair, letter), (rule, standing, pair))
                again = come_by(rule, standing, told, letter)
                self.assertEqual(again, slow_come_by(old, new, cond, standing, told, letter), (rule, standing, told))


class Stands(unittest.TestCase):
    def check(self, text, standing, told, *pairs):
        for pair in pairs:
            self.assertIs(stands(r(text), standing, pair), told, (text, standing, pair))

    def test_a_marked_number(self):
        self.check("twice a to sum a a", (0,), True, ((0,), ((1, 0),)), ((3,), ((0, 1), (1, 2))))
        self.check("twice a to sum a a", (0,), False, ((0,), ((0, 0),)), ((0,), ()), ((2,), ((0, 1), (0, 3))))

    def test_olds_that_are_bad_whatever_their_mark(self):
        self.check("twice.u a to sum a a", (0,), True, ((0,), ((0, 1),)), ((0,), ((0, 0), (0, 3))))
        self.check("twice.u a to sum a a", (0,), False, ((0,), ((0, 0),)), ((0,), ((0, 2),)))

    def test_a_bad_new_needs_a_bad_old(self):
        self.check("twice a to sum.u a a", (0,), False, ((1,), ((1, 0),)), ((3,), ((1, 0), (1, 1), (1, 2))))
        self.check("twice.s a to sum.u a a", (0,), True, ((1,), ((0, 1),)), ((1,), ((1, 0), (1, 2))))
        self.check("not a to a", (2,), True, ((), ((0,),)), ((), ((1,),)))
        self.check("not a to a", (2,), False, ((), ()))

    def test_new_that_ends_as_none(self):
        self.check("not a to froze a", (0,), True, ((1,), ()), ((1,), ((0,),)))
        self.check("not a to froze a", (0,), False, ((0,), ()), ((0,), ((0,),)))
        self.check("not froze a to froze a", (2,), True, ((0,), ()), ((1,), ((1, 1),)))
        # Of old's what ends as none lets nothing.
        self.check("not froze a to froze a", (2,), False, ((1,), ((1, 0),)), ((1,), ((0, 1),)))

    def test_tests(self):
        for test, holding in (("same", (0, 1)), ("unlike", (2, 3, 4, 5)), ("below", (2, 3)), ("under", (2, 5))):
            for number in range(6):
                self.check(f"sum a #c to a if {test} #c not #c", (0,), number not in holding, ((number,), ((0, 0),)))
        text = "sum a #c to a if same #c #c , below #c 3"
        self.check(text, (0,), True, ((0, 0, 0), ()), ((2, 2, 0), ()), ((2, 0, 0), ()))
        self.check(text, (0,), False, ((0, 2, 0), ()), ((1, 3, 3), ()))

    def test_against_slow_ones(self):
        chance = random.Random("stand")
        seen = {True: 0, False: 0}
        for old, new, cond in serial_rules("stand", 500, room=7):
            pair = chance_pair(chance, old, new, cond)
            for standing in all_standings(old):
                told = stands(Rule("f", old, new, cond=cond), standing, pair)
                self.assertIs(told, slow_stands(old, new, cond, standing, pair), (old, new, cond, standing, pair))
                seen[told] += 1
        self.assertGreater(min(seen.values()), 200)


class Calls(unittest.TestCase):
    def test_by_places_and_names(self):
        for call, told in ((letters_of, "(rule, standing)"), (beginnings, "(rule)"),
                           (come_by, "(rule, standing, pair, letter)"), (stands, "(rule, standing, pair)")):
            self.assertEqual(str(inspect.signature(call)), told)
            self.assertEqual(call.__module__, walking.__name__)
        rule = r("twice a to sum a a")
        pair = ((0,), ((1, 0),))
        self.assertEqual(come_by(letter=(1,), pair=pair, standing=(0,), rule=rule), ((1,), ((1, 1),)))
        self.assertIs(stands(pair=pair, standing=(0,), rule=rule), True)
        self.assertEqual(letters_of(standing=(0,), rule=rule), ((0,), (1,)))
        self.assertEqual(beginnings(rule=rule), (pair,))

    def test_what_is_handed_in_stays_and_the_same_again(self):
        rules = [(Rule("f", old, new, cond=cond), old) for old, new, cond in serial_rules("calls", 25)]
        asked = [(rule, standing, beginnings(rule)[-1], letters_of(rule, standing)[-1])
                 for rule, old in rules for standing in all_standings(old)]
        ahead = repr(asked)
        told = [(come_by(*one), stands(*one[:3])) for one in asked]
        again = [(come_by(*one), stands(*one[:3])) for one in reversed(asked)]
        self.assertEqual(again[::-1], told)
        self.assertEqual(repr(asked), ahead)
        self.assertEqual([names_of(old, "look") for _, old in rules], [list(names_of(rule.old, "look"))
                                                                        for rule, _ in rules])
