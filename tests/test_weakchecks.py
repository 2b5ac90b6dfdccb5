"""Checks of the papers of machines (point 17)."""

import inspect
import random
import unittest

from poisonrules import weakchecks
from poisonrules.errors import TooMany
from poisonrules.machines import is_machine
from poisonrules.rules import Rule
from poisonrules.ruletexts import read_rule
from poisonrules.weakchecks import weakest_holds
from poisonrules.weakest import weakest

from helper import assert_keeps, odd_things, put_at, serial_rules, slow_weakest_holds, spoilt


def r(text):
    return read_rule(f"rule f {text}")


SAME = r("and #c #c to #c")
ZERO = r("and #c 0 to #c if same #c 1")
ADDED = r("sum a #c to a")
WIDTHS = r("and a 3 to a")

# Of ZERO: 0 is let, all else is not; the num's state is 0 throughout, new has none.
ZERO_MACHINE = ((False, (1, 2)), (True, (1, 2)), (False, (2, 2)))
ZERO_KEEPS = ((1, (), (), ((1, 0),)), (2, (), (), ((0, 0),)))
ZERO_SHOWS = ((1, (), (), ((1, 0),)), (2, (), (), ((0, 0),)))


class ByHand(unittest.TestCase):
    def check(self, rule, machine, keeps, shows, told):
        self.assertIs(weakest_holds(rule, machine, (keeps, shows)), told, (machine, keeps, shows))

    def test_a_paper_by_hand(self):
        self.check(ZERO, ZERO_MACHINE, ZERO_KEEPS, ZERO_SHOWS, True)

    def test_fewer_olds_to_keep_where_a_room_does_not_let(self):
        self.check(ZERO, ZERO_MACHINE, (ZERO_KEEPS[0], (2, (), (), ())), ZERO_SHOWS, True)
        self.check(ZERO, ZERO_MACHINE, ((1, (), (), ()), (2, (), (), ())), ZERO_SHOWS, False)

    def test_more_olds_to_show(self):
        # All that is come to must be among them, and yet they must not stand.
        self.check(ZERO, ZERO_MACHINE, ZERO_KEEPS, ((1, (), (), ((0, 0), (1, 0))), ZERO_SHOWS[1]), True)
        self.check(ZERO, ZERO_MACHINE, ZERO_KEEPS, (ZERO_SHOWS[0], (2, (), (), ((0, 0), (1, 0)))), False)
        self.check(ZERO, ZERO_MACHINE, ZERO_KEEPS, (ZERO_SHOWS[0], (2, (), (), ())), False)
        self.check(ZERO, ZERO_MACHINE, ZERO_KEEPS, ((1, (), (), ()), ZERO_SHOWS[1]), False)

    def test_more_than_is_needed(self):
        self.check(ZERO, ZERO_MACHINE, ZERO_KEEPS, (*ZERO_SHOWS, (2, (), (), ((0, 0), (1, 0)))), True)
        self.check(ZERO, ZERO_MACHINE, (ZERO_KEEPS[0], (2, (), (), ()), ZERO_KEEPS[1]), ZERO_SHOWS, True)
        # What is shown of a room that lets must be led to, too.
        self.check(ZERO, ZERO_MACHINE, ZERO_KEEPS, ((1, (), (), ((0, 0),)), *ZERO_SHOWS), False)

    def test_left_out(self):
        for at in range(2):
            self.check(ZERO, ZERO_MACHINE, ZERO_KEEPS[:at] + ZERO_KEEPS[at + 1:], ZERO_SHOWS, False)
            self.check(ZERO, ZERO_MACHINE, ZERO_KEEPS, ZERO_SHOWS[:at] + ZERO_SHOWS[at + 1:], False)
        self.check(ZERO, ZERO_MACHINE, ZERO_KEEPS, (), False)
        self.check(ZERO, ZERO_MACHINE, (), ZERO_SHOWS, False)

    def test_in_the_place_of_one_another(self):
        fewer = (ZERO_KEEPS[0], (2, (), (), ()))
        self.check(ZERO, ZERO_MACHINE, fewer, ZERO_SHOWS, True)
        self.check(ZERO, ZERO_MACHINE, ZERO_SHOWS, fewer, False)
        self.check(ZERO, ZERO_MACHINE, ZERO_KEEPS[::-1], ZERO_SHOWS, False)
        self.check(ZERO, ZERO_MACHINE, ZERO_KEEPS, ZERO_SHOWS * 2, False)
        self.check(ZERO, ZERO_MACHINE, (ZERO_KEEPS[0], *ZERO_KEEPS), ZERO_SHOWS, False)

    def test_machines_that_let_others(self):
        for machine in (((False, (1, 2)), (True, (1, 2)), (True, (2, 2))), ((False, (1, 2)), (False, (1, 2)), (False, (2, 2))),
                        ((False, (1, 2)), (True, (1, 1)), (False, (2, 2))), ((False, (1, 1)), (True, (1, 2)), (False, (2, 2))),
                        ((False, (2, 1)), (True, (1, 2)), (False, (2, 2))), ((False, (1, 2)), (True, (1, 2)), (False, (2, 1)))):
            self.assertIs(is_machine(ZERO, machine), True)
            self.check(ZERO, machine, ZERO_KEEPS, ZERO_SHOWS, False)

    def test_rooms_that_are_never_come_to(self):
        lets = (*ZERO_MACHINE, (True, (3, 3)))
        self.check(ZERO, lets, ZERO_KEEPS, ZERO_SHOWS, True)
        # One that does not let needs a show; none leads to it, so any that does not stand is one.
        refuses = (*ZERO_MACHINE, (False, (1, 1)))
        self.check(ZERO, refuses, ZERO_KEEPS, ZERO_SHOWS, False)
        self.check(ZERO, refuses, ZERO_KEEPS, (*ZERO_SHOWS, (3, (), (), ())), True)
        self.check(ZERO, refuses, ZERO_KEEPS, (*ZERO_SHOWS, (3, (), (), ((1, 0),))), False)
        # One that leads to room 2 must lead to its show, from a show of its own.
        leading = (*ZERO_MACHINE, (True, (3, 2)))
        self.check(ZERO, leading, ZERO_KEEPS, ZERO_SHOWS, False)

    def test_leading_rooms_with_shows_of_their_own(self):
        machine = (*ZERO_MACHINE, (True, (1, 2)))
        self.check(ZERO, machine, ZERO_KEEPS, ZERO_SHOWS, False)
        self.check(ZERO, machine, ZERO_KEEPS, (*ZERO_SHOWS, (3, (), (), ((1, 0),))), True)
        self.check(ZERO, machine, ZERO_KEEPS, (*ZERO_SHOWS, (3, (), (), ((0, 0), (1, 0)))), False)
        # From olds () it leads to no olds, which are all among any.
        self.check(ZERO, machine, ZERO_KEEPS, (*ZERO_SHOWS, (3, (), (), ())), True)

    def test_what_is_kept_of_rooms_that_are_never_come_to(self):
        machine = (*ZERO_MACHINE, (True, (3, 3)))
        self.check(ZERO, machine, (*ZERO_KEEPS, (3, (), (), ((0, 0), (1, 0)))), ZERO_SHOWS, False)
        machine = (*ZERO_MACHINE, (True, (1, 2)))
        self.check(ZERO, machine, (*ZERO_KEEPS, (3, (), (), ((1, 0),))), (*ZERO_SHOWS, (3, (), (), ())), True)

    def test_the_tests_of_the_rule_tell_nothing(self):
        for cond in ((), (("same", ("const", "c"), ("num", 0)),), (("below", ("const", "c"), ("const", "c")),)):
            rule = Rule("f", ZERO.old, ZERO.new, cond=cond)
            self.check(rule, ZERO_MACHINE, ZERO_KEEPS, ZERO_SHOWS, True)
            # News have no numbers of tests.
            keeps = tuple((room, standing, (0, 0), olds) for room, standing, _, olds in ZERO_KEEPS)
            self.check(rule, ZERO_MACHINE, keeps, ZERO_SHOWS, False)

    def test_what_was_told(self):
        for rule in (SAME, ZERO, ADDED, WIDTHS, r("sum sum a #c #d to a"), r("not a to a"), r("froze a to a")):
            machine, paper = weakest(rule)
            self.check(rule, machine, *paper, True)
        machine, paper = weakest(ADDED)
        self.check(r("sum #c a to a"), machine, *paper, True)
        self.check(r("sum a #c to sum a 0"), machine, *paper, False)
        self.check(r("and a #c to a"), machine, *paper, False)


class ByChance(unittest.TestCase):
    def changed(self, chance, machine, paper):
        """A machine and its paper, changed somewhere."""
        kind = chance.randrange(5)
        part = chance.randrange(2)
        if kind == 0:
            room = chance.randrange(1, len(machine))
            return put_at(machine, (room, 0), not machine[room][0]), paper
        if kind == 1:
            room = chance.randrange(len(machine))
            at = chance.randrange(len(machine[0][1]))
            return put_at(machine, (room, 1, at), chance.randrange(1, len(machine))), paper
        if len(paper[part]) == 0:
            return machine, paper
        at = chance.randrange(len(paper[part]))
        one = paper[part][at]
        others = paper[part][:at] + paper[part][at + 1:]
        if kind == 2:
            return machine, put_at(paper, (part,), others)
        if kind == 3:
            olds = tuple(old for old in one[3] if chance.randrange(3))
            return machine, put_at(paper, (part,), tuple(sorted({*others, (*one[:3], olds)})))
        olds = tuple(sorted({*one[3], *chance.choice(paper[part])[3]}))
        return machine, put_at(paper, (part,), tuple(sorted({*others, (*one[:3], olds)})))

    def test_changed_against_a_slow_check(self):
        chance = random.Random("changed")
        seen = {True: 0, False: 0}
        for old, new, cond in serial_rules("weakchecks", 130, room=4):
            rule = Rule("f", old, new, cond=cond)
            try:
                machine, paper = weakest(rule, most=8)
            except TooMany:
                continue
            if sum(map(len, paper)) > 25:
                continue
            for _ in range(10):
                other, changed = self.changed(chance, machine, paper)
                told = weakest_holds(rule, other, changed)
                self.assertIs(told, slow_weakest_holds(old, new, other, changed), (rule, other, changed))
                seen[told] += 1
        self.assertGreater(min(seen.values()), 80, seen)


class OtherKinds(unittest.TestCase):
    def test_papers_spoilt_in_one_place(self):
        chance = random.Random("spoilt")
        for rule in (SAME, ZERO, ADDED, r("froze #c to sum #c froze 0")):
            machine, paper = weakest(rule)
            for other in spoilt(paper, chance, 80):
                self.assertIs(weakest_holds(rule, machine, other), False, other)

    def test_machines_spoilt_in_one_place(self):
        chance = random.Random("spoilt")
        for rule in (SAME, ZERO, ADDED):
            machine, paper = weakest(rule)
            for other in spoilt(machine, chance, 40):
                self.assertIs(weakest_holds(rule, other, paper), False, other)

    def test_truths_for_numbers(self):
        keeps = ((True, (), (), ((1, 0),)), ZERO_KEEPS[1])
        self.assertIs(weakest_holds(ZERO, ZERO_MACHINE, (keeps, ZERO_SHOWS)), False)
        keeps = ((1, (), (), ((True, 0),)), ZERO_KEEPS[1])
        self.assertIs(weakest_holds(ZERO, ZERO_MACHINE, (keeps, ZERO_SHOWS)), False)
        self.assertIs(weakest_holds(ZERO, ZERO_MACHINE, (ZERO_KEEPS, put_at(ZERO_SHOWS, (1, 3, 0, 1), False))), False)
        machine, (keeps, shows) = weakest(ADDED)
        self.assertEqual(keeps[0][1], (0,))
        self.assertIs(weakest_holds(ADDED, machine, (put_at(keeps, (0, 1, 0), False), shows)), False)

    def test_numbers_that_are_none(self):
        for at, number in (((0, 0, 0), 0), ((0, 0, 0), 3), ((1, 0, 0), -1), ((1, 1, 0), 1), ((0, 0, 3, 0, 0), 2), ((0, 1, 3, 0, 1), 1)):
            paper = put_at((ZERO_KEEPS, ZERO_SHOWS), at, number)
            self.assertIs(weakest_holds(ZERO, ZERO_MACHINE, paper), False, (at, number))
        # Also where what is none is not needed.
        for spare in ((0, (), (), ((1, 0),)), (3, (), (), ()), (2, (0,), (), ()), (2, (), (0,), ()), (2, (), (), ((1,),)),
                      (2, (), (), ((1, 5),)), (2, (), ()), (2, (), (), (), ())):
            keeps = tuple(sorted((*ZERO_KEEPS, spare)))
            self.assertIs(weakest_holds(ZERO, ZERO_MACHINE, (keeps, ZERO_SHOWS)), False, spare)

    def test_parts_of_what_was_told(self):
        told = weakest(ADDED)
        machine, paper = told
        for one, other in ((told, paper), (machine, told), (paper, machine), (machine, machine), (machine, paper[0]),
                           (machine, (*paper, ())), (machine, paper[:1]), (machine, ((), ())), (machine, list(paper)),
                           (list(machine), paper), (machine[1:], paper), (machine, paper[::-1])):
            self.assertIs(weakest_holds(ADDED, one, other), False)

    def test_of_anything(self):
        for rule in (SAME, ADDED, WIDTHS):
            machine, paper = weakest(rule)
            for thing in odd_things():
                for one in (thing, (thing, thing), ((thing,), ()), (paper[0], thing), (thing, paper[1]),
                            ((thing,), paper[1]), (((1, thing, (), ()),), ()), (((thing, (), (), ()),), ())):
                    if repr(one) != repr(paper):
                        self.assertIs(weakest_holds(rule, machine, one), False)
                self.assertIs(weakest_holds(rule, thing, paper), False)
                self.assertIs(weakest_holds(rule, thing, thing), False)

    def test_great_ones(self):
        machine = tuple((at == 1, (min(at + 1, 4999),)) for at in range(5000))
        self.assertIs(weakest_holds(WIDTHS, machine, weakest(WIDTHS)[1]), False)
        machine, paper = weakest(WIDTHS)
        self.assertIs(weakest_holds(WIDTHS, machine, (paper[0] * 500, paper[1])), False)


class Calls(unittest.TestCase):
    def test_by_places_and_names(self):
        self.assertEqual(str(inspect.signature(weakest_holds)), "(rule, machine, thing)")
        self.assertEqual(weakest_holds.__module__, weakchecks.__name__)
        self.assertIs(weakest_holds(thing=(ZERO_KEEPS, ZERO_SHOWS), rule=ZERO, machine=ZERO_MACHINE), True)

    def test_what_is_handed_in_stays(self):
        machine, paper = weakest(ADDED)
        for thing in [*odd_things(), machine, paper]:
            assert_keeps(self, lambda one: weakest_holds(ADDED, machine, one), thing)
            assert_keeps(self, lambda one: weakest_holds(ADDED, one, paper), thing)
        self.assertEqual(str(ADDED), "rule f sum a #c to a")

    def test_the_same_again_behind_other_calls(self):
        asked = [(rule, *weakest(other)) for rule in (SAME, ZERO, ADDED, WIDTHS) for other in (SAME, ZERO, ADDED, WIDTHS)]
        told = [weakest_holds(*one) for one in asked]
        self.assertEqual([weakest_holds(*one) for one in reversed(asked)][::-1], told)
        self.assertEqual(told.count(True), 4)
