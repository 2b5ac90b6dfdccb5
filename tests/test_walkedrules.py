"""Rules of known forms, and many by chance, walked, decided and checked, each against a plain walk (points 13 to 15)."""

import random
import unittest

from poisonrules.errors import TooMany
from poisonrules.proofchecks import against_holds, paper_holds
from poisonrules.proving import decide
from poisonrules.rules import Rule
from poisonrules.ruletexts import read_rule
from poisonrules.walking import beginnings, come_by, letters_of, stands

from helper import (
    STATED, all_standings, put_at, serial_rules, slow_against, slow_beginnings, slow_come_by, slow_decide, slow_is_kept,
    slow_letters, slow_stands, within)

KNOWN = [
    "sum a or b #c to choice same a #c sum b a froze b if below #c 3",
    "choice below #c #cz x froze x to froze x if unlike #cz #c , below #c #cz",
    "choice under #c 7 x not x to x if under #c 7 , below #c 2", "and x #c to x if same #c -1 , unlike #c 5",
    "sum.u x #c to or x #c if same #c 0", "less.s x #c to less x 9 if same #c 9", "less x #c to less.s x 9 if same #c 9",
    "sum a b to sum b a", "less a b to sum a sum not b 1", "sum.us a b to sum.u a b", "and a a to a", "xor a a to 0",
    "not not a to a", "or a #c to or #c a", "sum sum a #c #d to sum a sum #c #d", "xor xor a #c #d to a if same #c #d",
    "choice same a b a b to b", "choice below a #c a #c to choice below #c a #c a if same #c -1", "twice.s a to twice a",
    "froze sum a #c to sum froze a #c", "froze and a b to and froze a froze b", "sum a #c to a if below #c 4",
    "and a 3 to a", "sum a b to sum.u a b", "twice a to sum a a", "froze a to a", "or or a #c #d to or a #d if same #c 0",
    "choice same a 1 1 0 to choice same a 1 0 0", "froze froze froze a to froze a", "not 0 to -1", "sum 1 1 to 10",
]


def known_rules():
    """(old, new, cond) of the rules above."""
    found = []
    for text in KNOWN:
        rule = read_rule(f"rule f {text}")
        found.append((rule.old, rule.new, rule.cond))
    return found


def chance_numbers(chance, things):
    """Numbers that these things may have in a state."""
    many = {"test": 6, "froze": 2, "choice": 12}
    return tuple(one[1] >> chance.randrange(9) if one[0] == "num" else chance.randrange(many.get(one[0], 4))
                 for one in things if one[0] in (*STATED, "test"))


def chance_pair(chance, old, new, cond):
    """A pair to which perhaps nothing leads."""
    tested = sum(((("test",), *within(one), *within(other)) for _, one, other in cond), ())
    olds = {(chance.randrange(2), *chance_numbers(chance, within(old))) for _ in range(chance.choice((0, 1, 2, 6)))}
    return chance_numbers(chance, [*tested, *within(new)]), tuple(sorted(olds))


class Walked(unittest.TestCase):
    def check(self, old, new, cond, chance, many):
        """All functions of walking at so many pairs by each standing, from beginnings on and from anywhere."""
        rule = Rule("f", old, new, cond=cond)
        firsts = slow_beginnings(old, new, cond)
        self.assertEqual(list(beginnings(rule)), firsts)
        for standing in all_standings(old):
            letters = slow_letters(old, new, standing)
            self.assertEqual(list(letters_of(rule, standing)), letters)
            pair = chance.choice(firsts)
            for at in range(many):
                letter = chance.choice(letters)
                told = come_by(rule, standing, pair, letter)
                self.assertEqual(told, slow_come_by(old, new, cond, standing, pair, letter), (str(rule), standing, pair))
                self.assertIs(stands(rule, standing, pair), slow_stands(old, new, cond, standing, pair))
                pair = chance_pair(chance, old, new, cond) if at % 3 == 2 else told

    def test_known_rules(self):
        chance = random.Random("known")
        for fields in known_rules():
            self.check(*fields, chance, 9)

    def test_rules_by_chance(self):
        chance = random.Random("drawn")
        for fields in serial_rules("walked", 250, room=7):
            self.check(*fields, chance, 3)


class Decided(unittest.TestCase):
    def check(self, old, new, cond, limit):
        """What is told, and the most pairs by some standing; None where these are too many."""
        rule = Rule("f", old, new, cond=cond)
        slow = slow_decide(old, new, cond, limit=limit)
        if slow is None:
            with self.assertRaises(TooMany):
                decide(rule, most=limit)
            return None
        told, many = slow
        self.assertEqual(decide(rule, most=many), told)
        with self.assertRaises(TooMany):
            decide(rule, most=many - 1)
        if told[0] == "right":
            self.assertIs(paper_holds(rule, told[1]), True, str(rule))
        else:
            self.assertIs(against_holds(rule, told[1:]), True, str(rule))
        return told

    def test_known_rules(self):
        told = [self.check(*fields, 60) for fields in known_rules()]
        kinds = [one[0] for one in told if one is not None]
        self.assertGreater(min(kinds.count("right"), kinds.count("wrong")), 5)

    def test_rules_by_chance(self):
        told = [self.check(*fields, 15) for fields in serial_rules("decided", 120, room=5)]
        kinds = [one[0] for one in told if one is not None]
        self.assertGreater(min(kinds.count("right"), kinds.count("wrong")), 15)


class Checked(unittest.TestCase):
    def papers(self, chance, old, new, cond, paper):
        """(place of a set, other kept sets in its place), as other hands may write them."""
        for _ in range(6):
            at = chance.randrange(len(paper))
            kept, others = list(paper[at]), []
            place = chance.randrange(len(kept))
            news, olds = kept[place]
            # More pairs than are needed: with more olds all still holds.
            others.append([*kept, (news, tuple(sorted({*olds, *chance_pair(chance, old, new, cond)[1]})))])
            others.append([*kept, chance_pair(chance, old, new, cond)])
            others.append(kept[:place] + kept[place + 1:])
            if olds:
                less = chance.randrange(len(olds))
                others.append([*kept[:place], (news, olds[:less] + olds[less + 1:]), *kept[place + 1:]])
            for other in others:
                yield at, tuple(sorted(set(other)))

    def check(self, old, new, cond, chance, seen):
        rule = Rule("f", old, new, cond=cond)
        try:
            kind, *told = decide(rule, most=40)
        except TooMany:
            return
        if kind == "wrong":
            standing, letters = told
            for _ in range(6):
                rows = slow_letters(old, new, standing)
                other = tuple(chance.choice(rows) if chance.randrange(3) == 0 else letter for letter in letters)
                other += tuple(chance.choice(rows) for _ in range(chance.randrange(3)))
                slow = slow_against(old, new, cond, standing, other)
                self.assertIs(against_holds(rule, (standing, other)), slow, (str(rule), standing, other))
                seen[slow] += 1
            return
        for at, kept in self.papers(chance, old, new, cond, told[0]):
            slow = slow_is_kept(old, new, cond, all_standings(old)[at], kept)
            self.assertIs(paper_holds(rule, put_at(told[0], (at,), kept)), slow, (str(rule), at, kept))
            seen[slow] += 1

    def test_known_rules(self):
        chance, seen = random.Random("papers"), {True: 0, False: 0}
        for fields in known_rules():
            self.check(*fields, chance, seen)
        self.assertGreater(min(seen.values()), 100)

    def test_rules_by_chance(self):
        chance, seen = random.Random("others"), {True: 0, False: 0}
        for fields in serial_rules("checked", 200, room=5):
            self.check(*fields, chance, seen)
        self.assertGreater(min(seen.values()), 200)

    def test_what_is_amiss_at_the_end_is_refused(self):
        for text in KNOWN[1:5]:
            rule = read_rule(f"rule f {text}")
            paper = decide(rule)[1]
            last = paper[-1]
            for thing in (None, 0, "", (), [], True, {}, (None,), ((), ()), (last[-1][0], None), (None, last[-1][1]),
                          (last[-1][0], [*last[-1][1]]), (last[-1][0], (None,)), (last[-1][0], ((True,),)),
                          (last[-1][0], (*last[-1][1], [1])), ([*last[-1][0]], last[-1][1]), ({}, ()), ((), ({},))):
                self.assertIs(paper_holds(rule, (*paper[:-1], (*last[:-1], thing))), False, thing)
                self.assertIs(paper_holds(rule, (*paper[:-1], thing)), False, thing)
            for other in (paper[:-1], (*paper, last), paper[1:], (*paper[:-1], ()), ((),) * len(paper), list(paper),
                          (*paper[:-1], list(last)), (*paper[:-1], last[::-1]), (*paper[:-1], (*last, last[-1]))):
                if other != paper:
                    self.assertIs(paper_holds(rule, other), False, other)


class Calls(unittest.TestCase):
    def test_the_same_behind_other_calls(self):
        rules = [Rule("f", *fields[:2], cond=fields[2]) for fields in known_rules()]
        asked = [(rule, standing, pair, letters_of(rule, standing)[-1])
                 for rule in rules for standing in all_standings(rule.old) for pair in beginnings(rule)[-2:]]
        ahead = repr(asked)
        told = [(come_by(*one), stands(*one[:3]), letters_of(*one[:2])) for one in asked]
        for rule in rules:
            try:
                decide(rule, most=30)
            except TooMany:
                pass
        again = [(come_by(*one), stands(*one[:3]), letters_of(*one[:2])) for one in reversed(asked)]
        self.assertEqual(again[::-1], told)
        self.assertEqual(repr(asked), ahead)
