"""Whether a rule is right at a width, by all words (points 2 and 11)."""

import inspect
import itertools
import random
import re
import unittest

from poisonrules import judging
from poisonrules.judgechecks import judge_holds
from poisonrules.judging import judged
from poisonrules.outcomes import is_let, outcomes
from poisonrules.rules import Rule
from poisonrules.ruletexts import read_rule

from helper import (
    ANY, BAD, FAULT, ONE_PART, FLAGGED, TWO_PARTS, assert_keeps, chance_leaf, chance_rules, chance_test, compares, names_of,
    shared_out, ways_to_draw, within, wrong_worths)


def plainly_judged(rule, width):
    """What judged tells, by going through all worths with outcomes and is_let."""
    consts, inputs = names_of(rule.old, "const"), names_of(rule.old, "look")
    for numbers in itertools.product(range(2 ** width), repeat=len(consts)):
        named = dict(zip(consts, numbers))
        if not all(compares(r, *[plain_number(side, named, width) for side in sides], width) for r, *sides in rule.cond):
            continue
        for worths in itertools.product(range(BAD, 2 ** width), repeat=len(inputs)):
            looked = dict(zip(inputs, worths))
            old, new = [outcomes(side, tuple(looked[name] for name in names_of(side, "look")),
                                 consts=tuple(named[name] for name in names_of(side, "const")), width=width)
                        for side in (rule.old, rule.new)]
            if not is_let(new, old):
                return numbers + worths, min(one for one in new if not is_let((one,), old))
    return None


def plain_number(side, named, width):
    """The number of a term of a test."""
    told = outcomes(side, (), consts=tuple(named[name] for name in names_of(side, "const")), width=width)
    return told[0]


def drawn_term(chance, room, inputs, consts):
    """A term of all words, of just so many things."""
    if room == 1:
        return chance_leaf(chance, inputs, consts)
    if room >= 5 and chance.randrange(3) == 0:
        parts = [drawn_term(chance, size, inputs, consts) for size in shared_out(chance, room - 1, 4)]
        return ("choice", (chance.choice(("same", "below", "under")), *parts[:2]), *parts[2:])
    many = 1 if room == 2 or chance.randrange(3) == 0 else 2
    head = chance.choice(ONE_PART if many == 1 else TWO_PARTS)
    flags = (chance.choice(("", "u", "s", "us")),) if head in FLAGGED else ()
    return (head, *flags, *[drawn_term(chance, size, inputs, consts) for size in shared_out(chance, room - 1, many)])


def turned(chance, term):
    """A term that comes to the same, or nearly so: parts in another order, less seldom with one more flag."""
    if term[0] in ("look", "const", "num"):
        return term
    if term[0] == "choice":
        (r, t, v), p, q = term[1:]
        return ("choice", (r, turned(chance, t), turned(chance, v)), turned(chance, p), turned(chance, q))
    parts = [turned(chance, one) for one in term[1:] if isinstance(one, tuple)]
    if term[0] in ("and", "or", "xor", "times", "sum"):
        parts = parts[::-1]
    flags = (term[1],) if term[0] in FLAGGED else ()
    if flags and chance.randrange(4) == 0:
        flags = (chance.choice(("", "u", "s", "us")),)
    return (term[0], *flags, *parts)


def drawn_rules(seed, many, room):
    """So many (Rule, the greatest width within the bounds) of terms of all words, right ones among them."""
    chance = random.Random(seed)
    for _ in range(many):
        inputs, consts = chance.choice((("a", ""), ("ab", ""), ("abc", ""), ("a", "c"), ("ab", "c"), ("a", "cd"), ("", "cd"),
                                        ("", "c"), ("c", "c")))
        old = drawn_term(chance, chance.randrange(2, room + 1), inputs, consts)
        names, looks = names_of(old, "const"), names_of(old, "look")
        new = turned(chance, old) if chance.randrange(2) else drawn_term(chance, chance.randrange(1, room + 1), looks, names)
        cond = tuple(chance_test(chance, names) for _ in range(chance.choice((0, 0, 1, 2, 3)) if names else 0))
        widest = max(width for width in (1, 2, 3, 4)
                     if 2 ** (width * len(names)) * (2 ** width + 2) ** len(looks) <= 2000)
        yield Rule("f", old, new, cond=cond), widest


class ByHand(unittest.TestCase):
    def check(self, text, told, width=2):
        self.assertEqual(judged(read_rule(text), width=width), told, (text, width))

    def test_right_ones(self):
        for width in (1, 2, 3, 4):
            for text in ("rule f sum a a to twice a", "rule f sum a b to sum b a", "rule f sum.u a b to sum a b",
                         "rule f xor a a to 0", "rule f froze a to froze froze a", "rule f and a #c to and #c a",
                         "rule f quot a 0 to quot a a", "rule f choice same a a b a to b"):
                self.check(text, None, width)

    def test_wrong_ones(self):
        self.check("rule f twice a to sum a a", ((ANY,), 1))
        self.check("rule f froze a to a", ((BAD,), BAD))
        self.check("rule f not a to a", ((0,), 0))
        self.check("rule f sum a b to sum.u a b", ((ANY, ANY), BAD))
        self.check("rule f and a b to or a b", ((ANY, 0), 1))

    def test_the_least_worths(self):
        self.check("rule f and a #c to #c", ((1, 0), 1))
        self.check("rule f or froze a #c to #c", ((0, 1), 0))
        self.check("rule f sum.u a #c to less a #c", ((1, 0), 3))
        self.check("rule f sum froze a #c to froze a", ((1, 0), 0))
        self.check("rule f less froze a froze b to less froze b froze a", ((0, 1), 1))

    def test_constants_go_ahead_of_inputs(self):
        self.check("rule f sum z #c to z if unlike #c 0", ((1, 0), 0))
        self.check("rule f sum a #z to a if unlike #z 0 , unlike #z 1", ((2, 0), 0))

    def test_a_fault_goes_ahead_of_all(self):
        self.check("rule f froze a to quot 1 a", ((BAD,), FAULT))
        self.check("rule f not a to quot a a", ((BAD,), FAULT))
        self.check("rule f times froze a 0 to quot 2 froze a", ((BAD,), FAULT))
        self.check("rule f times froze a 0 to quot sum.u froze a 1 froze a", ((BAD,), FAULT))
        self.check("rule f choice same a a a a to quot 2 froze a", ((BAD,), FAULT))

    def test_a_bad_goes_ahead_of_numbers(self):
        self.check("rule f times a 0 to sum.u a 1", ((ANY,), BAD))

    def test_old_that_faults_lets_all(self):
        self.check("rule f quot a 0 to sum a 1", None)
        self.check("rule f sum quot 1 0 a to quot a 0", None)

    def test_right_at_one_width_wrong_at_another(self):
        right_at = {
            "rule f sum a 1 to less a 1": (1,), "rule f right a 1 to quot a 2": (2, 3, 4),
            "rule f times a a to a": (1,), "rule f left a 2 to 0": (2,), "rule f sum a 8 to a": (1, 2, 3),
        }
        for text, widths in right_at.items():
            for width in (1, 2, 3, 4):
                told = judged(read_rule(text), width=width)
                self.assertEqual(told is None, width in widths, (text, width, told))

    def test_tests_narrow_the_constants(self):
        for width in (1, 2, 3, 4):
            self.check("rule f sum a #c to a if same #c 0", None, width)
            self.check("rule f and a #c to a if same not #c 0", None, width)
            self.check("rule f left a #c to sum #c #c if unlike #c 0 , below #c 0", None, width)
        self.check("rule f sum a #c to a if same #c 1", ((1, 0), 0))
        self.check("rule f sum a #c to a if below 0 #c", ((1, 0), 0))
        self.check("rule f sum a #c to a if under #c 0", ((2, 0), 0))
        self.check("rule f sum a #c to a if under 0 #c", ((1, 0), 0))
        self.check("rule f sum a #c to a if unlike #c 1 , unlike #c 0", ((2, 0), 0))

    def test_a_test_that_no_number_meets(self):
        for test in ("same #c not #c", "below #c #c", "under #c #c", "unlike #c #c", "same 0 1", "below #c 0"):
            self.check(f"rule f sum a #c to quot a 0 if {test}", None)
        self.check("rule f not a to quot a 0 if same 0 1", None)

    def test_tests_of_constants_alone(self):
        self.check("rule f not #c to #c if same #c 1", ((1,), 1), 1)
        self.check("rule f not #c to #c if same #c 0", ((0,), 0), 1)
        self.check("rule f not #c to #c if unlike #c 0 , unlike #c 1", None, 1)
        self.check("rule f sum #c #d to #c if same #d 1", ((0, 1), 0), 1)
        self.check("rule f sum #c #d to #c if below #c #d", ((0, 1), 0), 3)
        self.check("rule f sum #c #d to #c if below #d #c", ((2, 1), 2), 2)
        self.check("rule f sum #c #d to #d if same #c 3 , below 2 #d", ((3, 3), 3), 2)

    def test_without_inputs_or_names(self):
        self.check("rule f not 0 to -1", None, 4)
        self.check("rule f not 0 to 0", ((), 0), 3)
        self.check("rule f not #c to #c", ((0,), 0), 3)
        self.check("rule f sum #c #d to sum #d #c", None, 4)
        self.check("rule f less #d #c to less #c #d", ((0, 1), 7), 3)

    def test_inputs_that_new_leaves_out(self):
        self.check("rule f and b not a to b", ((1, ANY), 1))
        self.check("rule f and a not b to a", ((ANY, 1), 1))
        self.check("rule f choice same b b a 0 to a", None)
        self.check("rule f sum less.u a b b to a", None)


class ByDrawing(unittest.TestCase):
    def test_rules_by_chance(self):
        right = wrong = 0
        for at, (old, new, cond) in enumerate(chance_rules("judged", 260)):
            width = 1 + at % 3
            if ways_to_draw(("and", old, new), width) > 5000:
                continue
            ways = wrong_worths(old, new, cond, width)
            told = judged(Rule("f", old, new, cond=cond), width=width)
            if ways:
                least = min(ways)
                self.assertEqual(told, (least, ways[least][0]), (old, new, cond, width))
                wrong += 1
            else:
                self.assertIsNone(told, (old, new, cond, width))
                right += 1
        self.assertGreater(min(right, wrong), 20)


class ByGoingThroughAllWorths(unittest.TestCase):
    def check(self, rule, width):
        told = judged(rule, width=width)
        self.assertEqual(told, plainly_judged(rule, width), (str(rule), width))
        return told

    def test_rules_that_took_long(self):
        for width, text, right in (
                (3, "sum sum a b sum c a to sum sum c b sum a a", True),
                (3, "sum a or xor b b xor #c #c to choice same #c 1 choice same a 3 sum a 1 a a if unlike #c 1", True),
                (2, "sum sum sum a b sum c a sum b c to sum sum sum b a sum a c sum c b", True),
                (4, "sum a or 0 xor #c #c to choice same #c 5 choice same a 7 sum a 1 a a if unlike #c 5", True),
                (4, "choice same a #c sum.u a 1 a to choice same a #c sum a 1 a if below #c 3", True),
                (3, "choice same a #c sum.u a 1 a to choice same a #c sum a 1 a if below #c 3", True),
                (2, "choice same a #c sum.u a 1 a to choice same a #c sum a 1 a if below #c 3", True)):
            told = self.check(read_rule(f"rule rr {text}"), width)
            self.assertEqual(told is None, right, text)

    def test_rules_that_are_wrong_by_a_late_row_alone(self):
        for width, text, worths in (
                (3, "sum sum a b sum c a to choice same and a and b c 7 0 sum sum c b sum a a", (7, 7, 7)),
                (4, "sum a #c to choice same and a #c 15 0 sum a #c", (15, 15)),
                (4, "sum a b to choice same and a b 15 0 sum b a", (15, 15)),
                (3, "sum a sum #c #d to choice same and a and #c #d 7 0 sum sum #c #d a", (7, 7, 7)),
                (4, "xor #c #d to choice same and #c #d 15 1 xor #d #c", (15, 15)),
                (4, "froze a to choice same froze a 15 0 froze a", (15,)),
                (2, "choice same a #c sum.u a 1 a to choice same a #c sum a 1 a if below #c 4", None)):
            told = self.check(read_rule(f"rule rr {text}"), width)
            self.assertEqual(told and told[0], worths, text)
        # Only where the last test holds, too.
        for number in range(8):
            rule = read_rule(f"rule rr sum a #c to sum sum a #c and #c 4 if same and #c 3 3 , below {number} #c")
            self.assertEqual(self.check(rule, 3), ((7, 0), 3) if number < 7 else None)

    def test_drawn_rules_of_all_words(self):
        right = wrong = tested = 0
        for at, (rule, widest) in enumerate(drawn_rules("drawn", 700, 8)):
            told = self.check(rule, min(1 + at % 3, widest))
            right += told is None
            wrong += told is not None
            tested += len(rule.cond) > 0
        self.assertGreater(min(right, wrong), 150)
        self.assertGreater(tested, 100)

    def test_drawn_rules_of_the_greatest_that_are_promised(self):
        late = 0
        for at, (rule, widest) in enumerate(drawn_rules("greatest", 120, 12)):
            told = self.check(rule, widest if at % 4 == 0 else min(2, widest))
            late += told is None or max(told[0], default=0) > 0
        self.assertGreater(late, 30)

    def test_every_word_over_looks_and_sets(self):
        heads = [f"{head} a b" for head in TWO_PARTS if head not in FLAGGED]
        heads += [f"{head}{flags} a b" for head in ("sum", "less") for flags in ("", ".u", ".s", ".us")]
        heads += [f"twice{flags} a" for flags in ("", ".u", ".s", ".us")] + ["not a", "froze a"]
        heads += [f"choice {r} a b b a" for r in ("same", "below", "under")]
        for one, other in itertools.product(heads, repeat=2):
            old = read_rule(f"rule f and {one} or a b to 0").old
            new = read_rule(f"rule f and {other} or a b to 0").old
            self.check(Rule("f", old, new), 2)
        for one in heads:
            # Over what may be a number, several, BAD, FAULT or some of these together.
            text = re.sub(r"\bb\b", "rest b left a B", re.sub(r"\ba\b", "quot sum.u froze a 1 froze a", one)).lower()
            old = read_rule(f"rule f sum less b b {text} to 0").old
            self.check(Rule("f", old, within(old)[-1]), 2)
            self.check(Rule("f", old, old), 2)
            self.check(Rule("f", ("sum", "", ("look", "a"), ("sum", "u", ("look", "b"), ("look", "b"))),
                            read_rule(f"rule f {text} to 0").old), 2)


class Bounds(unittest.TestCase):
    def test_the_greatest_that_are_promised(self):
        text = "sum.us times a b xor left froze c and a b sum a c"
        self.assertIsNone(judged(read_rule(f"rule f {text} to {text}"), width=3))
        text = "choice below a b choice under a b #c a xor a b"
        self.assertIsNone(judged(read_rule(f"rule f {text} to {text}"), width=3))
        text = "sum times sum times froze sum.us a b a a left b b a"
        self.assertIsNone(judged(read_rule(f"rule f {text} to {text}"), width=4))

    def test_greater_terms(self):
        deep = read_rule(f"rule f {'not ' * 98}a to {'not ' * 99}a")
        self.assertEqual(judged(deep, width=4), ((0,), 15))


class Calls(unittest.TestCase):
    def test_by_places_and_names(self):
        rule = read_rule("rule f twice a to sum a a")
        self.assertEqual(str(inspect.signature(judged)), "(rule, *, width=2)")
        self.assertEqual(judged.__module__, judging.__name__)
        self.assertEqual(judged(rule=rule, width=2), judged(rule))
        with self.assertRaises(TypeError):
            judged(rule, 2)

    def test_kinds(self):
        worths, outcome = judged(read_rule("rule f sum a #c to a if below 0 #c"))
        self.assertEqual([one.__class__ for one in (worths, outcome, *worths)], [tuple, int, int, int])

    def test_what_is_handed_in_stays(self):
        for old, new, cond in chance_rules("keep", 20, room=5):
            rule = Rule("f", old, new, cond=cond)
            assert_keeps(self, judged, rule)
            self.assertEqual((rule.name, rule.old, rule.new, rule.cond), ("f", old, new, cond))

    def test_the_same_again_behind_other_calls(self):
        rules = [Rule("f", old, new, cond=cond) for old, new, cond in chance_rules("again", 40)]
        told = [judged(rule) for rule in rules]
        for rule, one in zip(rules, told):
            judged(rule, width=1)
            judge_holds(rule, one)
        again = [judged(Rule("g", rule.old, rule.new, cond=rule.cond)) for rule in reversed(rules)]
        self.assertEqual(again[::-1], told)
