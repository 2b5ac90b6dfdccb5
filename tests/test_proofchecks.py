"""Checks of papers for serial rules and against them (point 15)."""

import inspect
import itertools
import random
import unittest

from poisonrules import proofchecks
from poisonrules.errors import TooMany
from poisonrules.proofchecks import against_holds, paper_holds
from poisonrules.proving import decide
from poisonrules.rules import Rule
from poisonrules.ruletexts import read_rule

from helper import (
    all_standings, assert_keeps, odd_things, put_at, serial_rules, slow_against, slow_come_by, slow_is_kept,
    slow_letters, slow_stands, spoilt)


def r(text):
    return read_rule(f"rule f {text}")


RIGHT = r("sum a #c to sum #c a if unlike #c 3")
FROZEN = r("froze a to froze froze a")
WRONG = r("and a 3 to a")


def parts_of(rule):
    return rule.old, rule.new, rule.cond


def slow_paper_holds(rule, paper):
    """Whether a paper of well-formed pairs, rising, holds."""
    standings = all_standings(rule.old)
    return len(paper) == len(standings) and all(
        slow_is_kept(*parts_of(rule), standing, kept) for standing, kept in zip(standings, paper))


class Papers(unittest.TestCase):
    def test_what_was_told_holds_for_its_rule_alone(self):
        for rule in (RIGHT, FROZEN):
            self.assertIs(paper_holds(rule, decide(rule)[1]), True)
        self.assertIs(paper_holds(FROZEN, decide(RIGHT)[1]), False)
        self.assertIs(paper_holds(RIGHT, decide(FROZEN)[1]), False)
        self.assertIs(paper_holds(r("sum a #c to sum #c a"), decide(RIGHT)[1]), False)

    def test_by_hand(self):
        rule = r("not a to not a")
        one, other, third = (((), ((1,),)),), (((), ((0,), (1,))),), (((), ((1,),)),)
        self.assertIs(paper_holds(rule, (one, other, third)), True)
        # Fewer olds do where they stand, more do not, as they are not among those come to.
        self.assertIs(paper_holds(rule, (one, third, third)), True)
        self.assertIs(paper_holds(rule, (other, other, third)), False)
        # A bad old is enough by a BAD one, so any mark does, but none do not.
        self.assertIs(paper_holds(rule, (one, other, (((), ((0,),)),))), False)
        self.assertIs(paper_holds(rule, (one, other, (((), ()),))), False)
        self.assertIs(paper_holds(rule, (one, (((), ((0,),)),), third)), False)

    def test_more_pairs_than_are_needed(self):
        rule = r("not a to not a")
        most = (((), ((0,), (1,))), ((), ((1,),)))
        self.assertIs(paper_holds(rule, (most, most, most)), True)
        self.assertIs(paper_holds(rule, ((((), ((0,), (1,))),), most, most)), False)
        # One that stands by itself, but leads to what does not.
        self.assertIs(paper_holds(rule, (((), ((1,),)), ((), ((0,),)))), False)

    def test_each_is_once_and_rising(self):
        for rule in (RIGHT, FROZEN):
            paper = decide(rule)[1]
            for at, kept in enumerate(paper):
                if len(kept) > 1:
                    self.assertIs(paper_holds(rule, put_at(paper, (at,), kept[::-1])), False)
                self.assertIs(paper_holds(rule, put_at(paper, (at,), (kept[0], *kept))), False)
                self.assertIs(paper_holds(rule, put_at(paper, (at,), (*kept, kept[-1]))), False)
                for place, (news, olds) in enumerate(kept):
                    self.assertIs(paper_holds(rule, put_at(paper, (at, place, 1), (olds[0], *olds))), False)
                    if len(olds) > 1:
                        self.assertIs(paper_holds(rule, put_at(paper, (at, place, 1), olds[::-1])), False)

    def test_a_set_for_each_standing(self):
        for rule in (RIGHT, FROZEN):
            paper = decide(rule)[1]
            for other in (paper[1:], paper[:-1], (*paper, paper[-1]), (paper[0], *paper), (), paper[0], (paper,),
                          paper[::-1], put_at(paper, (0,), ()), put_at(paper, (2,), ())):
                if other != paper:
                    self.assertIs(paper_holds(rule, other), False)

    def test_every_pair_is_needed_or_not(self):
        left_out = held = 0
        for rule in (RIGHT, FROZEN, r("choice same a 1 a 0 to and a choice same 1 a 1 0")):
            told = decide(rule)
            self.assertEqual(told[0], "right")
            for at, kept in enumerate(told[1]):
                for place in range(len(kept)):
                    other = put_at(told[1], (at,), kept[:place] + kept[place + 1:])
                    holds = paper_holds(rule, other)
                    self.assertIs(holds, slow_paper_holds(rule, other), (rule, at, place))
                    left_out += 1
                    held += holds
        self.assertGreater(left_out - held, 10)

    def test_numbers_that_are_no_states(self):
        rule = r("sum a 5 to sum 5 a")
        paper = decide(rule)[1]
        self.assertIs(paper_holds(rule, paper), True)
        # Pairs that are not needed, whose num is no half of 5, or whose sum is none: by these it is no paper.
        for news in ((0, 3), (0, -1), (4, 0), (-1, 0), (0, 4), (0, 10)):
            extra = tuple(sorted((*paper[0], (news, ((1, 0, 5),)))))
            self.assertIs(paper_holds(rule, put_at(paper, (0,), extra)), False, news)
        for olds in (((2, 0, 5),), ((-1, 0, 5),), ((1, 0, 3),), ((1, 4, 0),), ((1, 0),), ((1, 0, 0, 0),), ((),)):
            extra = tuple(sorted((*paper[0], ((0, 5), olds))))
            self.assertIs(paper_holds(rule, put_at(paper, (0,), extra)), False, olds)
        # By what a number does alone these would do: 4 as 0 of a sum, 2 as 0 of a froze, 12 as 6 of a choice, and nums
        # of a side that is never chosen.
        for text, spares in (("sum a 5 to sum 5 a", [((4, 5), ((1, 0, 5),))]), ("sum a 5 to sum 5 a", [((0, 5), ((1, 4, 5),))]),
                             ("froze a to froze a", [((2,), ((1, 0),))]), ("froze a to froze a", [((0,), ((1, 2),))]),
                             ("and a 0 to choice same a a 0 0", [((12, 0, 0), ())]),
                             ("not a to choice same 0 0 not a 7", [((0, 0, 0, 5), ((1,),)), ((0, 0, 0, 2), ((1,),))]),
                             ("choice same 0 0 a 7 to a", [((), ((1, 0, 0, 0, number),)) for number in (5, 2, 1, 0)])):
            kept = decide(r(text))[1]
            self.assertIs(paper_holds(r(text), kept), True)
            spoilt_set = tuple(sorted((*kept[0], *spares)))
            self.assertIs(slow_is_kept(*parts_of(r(text)), (0,), spoilt_set), True, spares)
            self.assertIs(paper_holds(r(text), put_at(kept, (0,), spoilt_set)), False, spares)
        # Pairs to which nothing leads do, where they are such, stand, and lead into the set.
        for spare in (((2, 5), ((1, 2, 5),)), ((0, 5), ((1, 0, 5),)), ((0, 5), ((0, 3, 0), (1, 0, 5)))):
            self.assertNotIn(spare, paper[0])
            self.assertIs(paper_holds(rule, put_at(paper, (0,), tuple(sorted((*paper[0], spare))))), True, spare)

    def test_tests_may_have_0_to_5(self):
        paper = decide(RIGHT)[1]
        for number in range(-1, 7):
            # A pair where the test has this, from which all lead into the set or to pairs that stand.
            kept = tuple(sorted({*paper[2], ((number, *paper[2][0][0][1:]), paper[2][0][1])}))
            other = put_at(paper, (2,), kept)
            if number in range(6):
                self.assertIs(paper_holds(RIGHT, other), slow_paper_holds(RIGHT, other), number)
            else:
                self.assertIs(paper_holds(RIGHT, other), False, number)

    def test_a_paper_of_all_that_stands(self):
        # All pairs from which nothing leads to what does not stand, olds () and what nothing leads to among them.
        rule = r("and a a to a")
        olds = [tuple(sorted(some)) for many in range(3) for some in itertools.combinations(((0,), (1,)), many)]
        paper = []
        for standing in all_standings(rule.old):
            kept = sorted(((), some) for some in olds)
            kept = [pair for pair in kept if slow_stands(*parts_of(rule), standing, pair)]
            while not all(slow_is_kept_from(rule, standing, pair, kept) for pair in kept):
                kept = [pair for pair in kept if slow_is_kept_from(rule, standing, pair, kept)]
            paper.append(tuple(kept))
        self.assertIs(paper_holds(rule, tuple(paper)), True)
        self.assertGreater(sum(map(len, paper)), sum(map(len, decide(rule)[1])))

    def test_papers_of_wrong_rules(self):
        for text in ("and a 3 to a", "not a to a", "twice a to sum a a", "froze a to a"):
            for paper in (decide(RIGHT)[1], decide(FROZEN)[1], decide(r("not a to not a"))[1], ((), (), ()), ()):
                self.assertIs(paper_holds(r(text), paper), False)


def slow_is_kept_from(rule, standing, pair, kept):
    """Whether from one pair each letter leads to one of kept."""
    for letter in slow_letters(rule.old, rule.new, standing):
        news, come = slow_come_by(*parts_of(rule), standing, pair, letter)
        if not any(one == news and set(olds) <= set(come) for one, olds in kept):
            return False
    return True


class PapersByChance(unittest.TestCase):
    def test_papers_with_parts_changed_against_a_slow_check(self):
        chance = random.Random("changed")
        seen = {True: 0, False: 0}
        for old, new, cond in serial_rules("papers", 150, room=4):
            rule = Rule("f", old, new, cond=cond)
            try:
                kind, paper, *_ = decide(rule, most=30)
            except TooMany:
                continue
            if kind == "wrong":
                continue
            for _ in range(12):
                at = chance.randrange(len(paper))
                kept = list(paper[at])
                place = chance.randrange(len(kept))
                news, olds = kept[place]
                if chance.randrange(4) == 0:
                    del kept[place]
                else:
                    kept[place] = (news, tuple(one for one in olds if chance.randrange(3)))
                other = put_at(paper, (at,), tuple(sorted(set(kept))))
                holds = paper_holds(rule, other)
                self.assertIs(holds, slow_paper_holds(rule, other), (rule, other))
                seen[holds] += 1
        self.assertGreater(min(seen.values()), 40, seen)


class Against(unittest.TestCase):
    def test_what_was_told_holds(self):
        self.assertIs(against_holds(WRONG, ((0,), ((0,), (0,), (1,)))), True)
        self.assertIs(against_holds(r("twice a to sum a a"), ((1,), ((0, 1),))), True)
        self.assertIs(against_holds(r("not 3 to 4"), ((), ((), (), (), ()))), True)
        self.assertIs(against_holds(r("froze a to a"), ((2,), ((),))), True)

    def test_others_than_the_least(self):
        for letters in (((1,), (1,), (1,)), ((0,), (1,), (1,)), ((0,), (0,), (1,), (0,)), ((1,),) * 9):
            self.assertIs(against_holds(WRONG, ((0,), letters)), True, letters)
        self.assertIs(against_holds(r("twice a to sum a a"), ((1,), ((1, 0),))), True)
        self.assertIs(against_holds(r("twice a to sum a a"), ((1,), ((0, 1), (0, 0)))), True)

    def test_letters_that_lead_to_what_stands(self):
        for letters in (((0,), (0,), (0,)), ((1,), (1,), (0,)), ((0,),), ((1,), (1,))):
            self.assertIs(against_holds(WRONG, ((0,), letters)), False, letters)
        self.assertIs(against_holds(r("twice a to sum a a"), ((1,), ((1, 1),))), False)
        self.assertIs(against_holds(r("twice a to sum a a"), ((1,), ((0, 0),))), False)

    def test_what_does_not_stand_on_the_way_tells_nothing(self):
        # 1 is below 2 at two bits, not at one, where 2 is 0.
        rule = r("xor a 0 to xor a choice below 1 2 0 1")
        self.assertIs(against_holds(rule, ((0,), ((0,),))), True)
        self.assertIs(against_holds(rule, ((0,), ((0,), (0,)))), False)

    def test_too_few_or_too_many(self):
        self.assertIs(against_holds(WRONG, ((0,), ())), False)
        self.assertIs(against_holds(r("not 0 to 0"), ((), ())), False)
        # Its beginning does not stand, but there is no letter.
        self.assertIs(against_holds(r("froze a to a"), ((2,), ())), False)
        self.assertIs(against_holds(r("not 0 to 0"), ((), ((),))), True)
        for letters in (((0,), (0,), (1, 0)), ((0, 0), (0, 0), (1, 0)), ((0,), (0,), ()), ((), (), ())):
            self.assertIs(against_holds(WRONG, ((0,), letters)), False, letters)

    def test_letters_of_another_standing(self):
        rule = r("twice a to sum a a")
        self.assertIs(against_holds(rule, ((0,), ((0, 1),))), False)
        self.assertIs(against_holds(rule, ((2,), ((0, 1),))), False)
        self.assertIs(against_holds(rule, ((1,), ((1,),))), False)
        self.assertIs(against_holds(rule, ((1, 1), ((0, 1),))), False)
        self.assertIs(against_holds(rule, ((), ((0, 1),))), False)
        self.assertIs(against_holds(rule, ((3,), ((0, 1),))), False)

    def test_right_rules(self):
        for rule in (RIGHT, FROZEN, r("sum a b to sum b a")):
            for standing in all_standings(rule.old):
                for letters in itertools.product(slow_letters(rule.old, rule.new, standing), repeat=2):
                    self.assertIs(against_holds(rule, (standing, letters)), False)

    def test_by_chance_against_a_slow_walk(self):
        chance = random.Random("against")
        seen = {True: 0, False: 0}
        for old, new, cond in serial_rules("against", 120):
            rule = Rule("f", old, new, cond=cond)
            for standing in all_standings(old):
                rows = slow_letters(old, new, standing)
                letters = tuple(chance.choice(rows) for _ in range(chance.randrange(1, 4)))
                told = against_holds(rule, (standing, letters))
                self.assertIs(told, slow_against(old, new, cond, standing, letters), (rule, standing, letters))
                seen[told] += 1
        self.assertGreater(min(seen.values()), 50)

    def test_long_ones(self):
        self.assertIs(against_holds(r("sum a b to sum.u b a"), ((0, 0), ((0, 1),) * 3000 + ((1, 1),))), True)
        self.assertIs(against_holds(r("sum a b to sum.u b a"), ((0, 0), ((0, 1),) * 5000)), False)
        frozes = r("froze froze froze froze a to froze froze froze froze a")
        self.assertIs(against_holds(frozes, ((0,), ((0, 1, 0, 1, 0),) * 3000)), False)


class OtherKinds(unittest.TestCase):
    def test_papers_spoilt_in_one_place(self):
        chance = random.Random("spoilt")
        for rule in (RIGHT, FROZEN, r("not a to not a")):
            paper = decide(rule)[1]
            for other in spoilt(paper, chance, 60):
                self.assertIs(paper_holds(rule, other), False, other)

    def test_papers_against_spoilt_in_one_place(self):
        chance = random.Random("spoilt")
        for rule in (WRONG, r("twice a to sum a a"), r("and a b to or a b"), r("not 3 to 4")):
            told = decide(rule)[1:]
            for other in spoilt(told, chance, 60):
                self.assertIs(against_holds(rule, other), False, other)

    def test_truths_for_numbers(self):
        self.assertIs(against_holds(WRONG, ((False,), ((0,), (0,), (1,)))), False)
        self.assertIs(against_holds(WRONG, ((0,), ((0,), (0,), (True,)))), False)
        self.assertIs(against_holds(WRONG, ((0,), ((False,), (0,), (1,)))), False)
        rule = r("not a to not a")
        one, other, third = decide(rule)[1]
        self.assertIs(paper_holds(rule, ((((), ((True,),)),), other, third)), False)
        self.assertIs(paper_holds(rule, (one, (((), ((False,), (1,))),), third)), False)

    def test_what_was_told_whole(self):
        self.assertIs(paper_holds(RIGHT, decide(RIGHT)), False)
        self.assertIs(against_holds(WRONG, decide(WRONG)), False)
        self.assertIs(against_holds(RIGHT, decide(RIGHT)[1]), False)
        self.assertIs(paper_holds(WRONG, decide(WRONG)[1:]), False)

    def test_of_anything(self):
        for rule in (RIGHT, FROZEN, WRONG, r("not 0 to -1"), r("sum a b to sum b a")):
            for thing in odd_things():
                for one in (thing, (thing,), (thing,) * 3, (thing, thing), ((0,), thing), ((0,), (thing,)),
                            (thing, ((0,), (0,), (1,))), (((thing, thing),),) * 3, ((((), thing),),) * 3,
                            ((((), (thing,)),),) * 3, ((((thing,), ()),),) * 3):
                    self.assertIs(paper_holds(rule, one), False)
                    self.assertIs(against_holds(rule, one), False)

    def test_great_ones(self):
        rule = r("not a to not a")
        self.assertIs(paper_holds(rule, ((((), ((1,),)),) * 6000,) * 3), False)
        self.assertIs(paper_holds(rule, tuple(((), ()) for _ in range(5000))), False)


class Calls(unittest.TestCase):
    def test_by_places_and_names(self):
        for call in (paper_holds, against_holds):
            self.assertEqual(str(inspect.signature(call)), "(rule, thing)")
            self.assertEqual(call.__module__, proofchecks.__name__)
        self.assertIs(paper_holds(thing=decide(RIGHT)[1], rule=RIGHT), True)
        self.assertIs(against_holds(thing=decide(WRONG)[1:], rule=WRONG), True)

    def test_what_is_handed_in_stays(self):
        for thing in [*odd_things(), decide(RIGHT)[1], decide(WRONG)[1:]]:
            for rule in (RIGHT, WRONG):
                assert_keeps(self, lambda one: paper_holds(rule, one), thing)
                assert_keeps(self, lambda one: against_holds(rule, one), thing)
        self.assertEqual(str(RIGHT), "rule f sum a #c to sum #c a if unlike #c 3")

    def test_the_same_again_behind_other_calls(self):
        asked = [(rule, thing) for rule in (RIGHT, FROZEN, WRONG) for thing in (
            decide(RIGHT)[1], decide(FROZEN)[1], decide(WRONG)[1:], None, ((0,), ((1,), (1,), (1,))), (), 1)]
        told = [(paper_holds(*one), against_holds(*one)) for one in asked]
        again = [(paper_holds(*one), against_holds(*one)) for one in reversed(asked)]
        self.assertEqual(again[::-1], told)
