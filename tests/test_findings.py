"""Findings (point 27)."""

import inspect
import random
import unittest

from poisonrules import findings
from poisonrules.errors import TooMany
from poisonrules.findings import finding_holds
from poisonrules.judging import judged
from poisonrules.programs import Program
from poisonrules.progtexts import read_program
from poisonrules.proving import decide
from poisonrules.refining import refined
from poisonrules.rules import Rule
from poisonrules.ruletexts import read_rule
from poisonrules.weakest import weakest

from helper import ANY, BAD, FAULT, assert_keeps, chance_program, chance_rules, odd_things, put_at, serial_rules, spoilt

ORDER = "rule order sum x y to sum y x"
TWICE = "rule f twice x to sum x x"
ADDED = "rule f sum x #c to x"
ONE = "width 2\nin a\nsum a 1\nout @0"
OTHER = "width 2\nin a\nsum.u a 1\nout @0"


def nested(times, text):
    return "not " * times + text


EVERY = ("every", ORDER, decide(read_rule(ORDER))[1])
AGAINST = ("against", TWICE, decide(read_rule(TWICE))[1:])
WEAKEST = ("weakest", ADDED, *weakest(read_rule(ADDED)))
WORDS = ("words", TWICE, 2, ((ANY,), 3))
WORSE = ("worse", ONE, OTHER, ((3,), (BAD,)))
ALL = (EVERY, AGAINST, WEAKEST, WORDS, WORSE)


class Case(unittest.TestCase):
    def hold(self, *things):
        for thing in things:
            self.assertIs(finding_holds(thing), True, thing)

    def refuse(self, *things):
        for thing in things:
            self.assertIs(finding_holds(thing), False, thing)


class Holds(Case):
    def test_each_word(self):
        self.hold(*ALL)
        self.hold(("words", TWICE, 2, ((ANY,), 1)), ("words", TWICE, 1, ((ANY,), 1)), ("words", TWICE, 4, ((ANY,), 15)))
        self.hold(("words", "rule f times x 2 to quot x 1", 2, ((1,), 1)), ("words", "rule f not x to quot 1 x", 1, ((0,), FAULT)))
        self.hold(("against", "rule f not 3 to 4", ((), ((), (), (), ()))))
        self.hold(("worse", "width 1\nin\nout 0", "width 1\nin\nout 1", ((), (1,))))
        self.hold(("worse", ONE, OTHER, ((ANY,), (BAD,))))

    def test_what_is_not_so(self):
        self.refuse(("words", TWICE, 2, ((ANY,), 2)), ("words", TWICE, 2, ((1,), 2)), ("words", TWICE, 2, None),
                    ("words", ORDER, 2, ((0, 0), 0)), ("every", TWICE, EVERY[2]), ("every", ORDER, ()),
                    ("every", ORDER, EVERY[2][:-1]), ("against", ORDER, AGAINST[2]), ("against", TWICE, ((0,), ((0,),))),
                    ("against", TWICE, EVERY[2]), ("weakest", ADDED, WEAKEST[2], ()), ("weakest", ADDED, (), WEAKEST[3]),
                    ("weakest", ADDED, WEAKEST[3], WEAKEST[2]), ("weakest", ORDER, *WEAKEST[2:]),
                    ("worse", ONE, OTHER, None), ("worse", OTHER, ONE, WORSE[3]), ("worse", ONE, ONE, WORSE[3]),
                    ("worse", ONE, OTHER, ((3,), (0,))), ("worse", ONE, OTHER, ((1,), (BAD,))))

    def test_other_names_of_rules(self):
        self.hold(("every", ORDER.replace("order", "other"), EVERY[2]))

    def test_of_rules_with_tests(self):
        rule = "rule f sum x #c to x if below #c 1"
        self.hold(("every", rule, decide(read_rule(rule))[1]))
        self.hold(("weakest", rule, *WEAKEST[2:]))
        self.hold(("words", "rule f sum x #c to x if same #c 1", 2, ((1, 0), 0)))
        self.refuse(("words", "rule f sum x #c to x if same #c 1", 2, ((2, 0), 0)))

    def test_rules_by_chance(self):
        seen = {"right": 0, "wrong": 0}
        for old, new, cond in serial_rules("findings", 40, room=4, tests=True):
            rule = Rule("f", old, new, cond=cond)
            try:
                kind, *paper = decide(rule)
            except TooMany:
                continue
            thing = tuple(paper) if kind == "wrong" else paper[0]
            seen[kind] += 1
            self.assertIs(finding_holds(("every", str(rule), thing)), kind == "right")
            self.assertIs(finding_holds(("against", str(rule), thing)), kind == "wrong")
        self.assertGreater(min(seen.values()), 5)
        for old, new, cond in chance_rules("words", 60):
            rule = Rule("f", old, new, cond=cond)
            told = judged(rule, width=1)
            self.assertIs(finding_holds(("words", str(rule), 1, told)), told is not None)

    def test_programs_by_chance(self):
        chance = random.Random("worse")
        held = 0
        for _ in range(200):
            fields, other = chance_program(chance, most=8), chance_program(chance, most=8)
            one, two = [Program(*some[:3], width=some[3]) for some in (fields, other)]
            if fields[0] != other[0] or fields[3] != other[3] or len(fields[2]) != len(other[2]):
                self.refuse(("worse", str(one), str(two), ((0,) * len(fields[0]), (0,) * len(fields[2]))))
                continue
            told = refined(one, two)
            self.assertIs(finding_holds(("worse", str(one), str(two), told)), told is not None)
            held += told is not None
        self.assertGreater(held, 3)


class Unlike(Case):
    def test_inputs_width_and_outs(self):
        thing = ((3,), (BAD,))
        self.refuse(("worse", ONE.replace("in a", "in a b"), OTHER, thing), ("worse", ONE, OTHER.replace("width 2", "width 3"), thing),
                    ("worse", ONE, OTHER + " 0", thing), ("worse", ONE, OTHER + " 0", ((3,), (BAD, 0))),
                    ("worse", ONE.replace("in a", "in b").replace("sum a", "sum b"), OTHER, thing),
                    ("worse", ONE + " 0", OTHER, thing))
        self.hold(("worse", ONE + " 0", OTHER + " 0", ((3,), (BAD, 0))))


class Bounds(Case):
    def test_things_within_one_another(self):
        self.hold(("words", f"rule f {nested(5, 'x')} to x", 2, ((0,), 0)))
        self.refuse(("words", f"rule f {nested(6, 'x')} to 1", 2, ((0,), 1)))
        self.refuse(("words", f"rule f not x to {nested(6, 'x')}", 2, ((0,), 0)))
        self.hold(("words", f"rule f not x to {nested(4, 'x')}", 2, ((0,), 0)))
        choice = "choice same not not not not x x x x"
        self.hold(("words", f"rule f {choice} to not x", 2, ((0,), 3)))
        self.refuse(("words", f"rule f {choice.replace('not', 'not not', 1)} to not x", 2, ((0,), 3)))

    def test_how_many_things(self):
        for text, things in (("sum sum sum x x sum x x sum not x x", 12), ("sum sum sum x x sum x x sum sum x x x", 13)):
            rule = read_rule(f"rule f {text} to not x")
            self.assertEqual(len(rule), things + 2)
            told = judged(rule, width=1)
            self.assertIs(finding_holds(("words", str(rule), 1, told)), things == 12)
            rule = read_rule(f"rule f not x to {text}")
            told = judged(rule, width=1)
            self.assertIs(finding_holds(("words", str(rule), 1, told)), things == 12)

    def test_inputs_constants_and_tests(self):
        for text, held in (("sum x sum y z to x", True), ("sum w sum x sum y z to x", False), ("sum x sum y #c to x", True),
                           ("sum x sum #d #c to x", True), ("sum #b sum #d #c to #b", False), ("sum w sum x sum y #c to x", False),
                           ("sum sum x y sum #d #c to x", False), ("sum #d #c to #d", True)):
            rule = read_rule(f"rule f {text}")
            self.assertIs(finding_holds(("words", str(rule), 1, judged(rule, width=1))), held, text)
        text = "rule f sum x #c to x if unlike #c 0"
        self.hold(("words", text + " , same 0 0" * 2, 2, ((1, 0), 0)))
        self.refuse(("words", text + " , same 0 0" * 3, 2, ((1, 0), 0)))

    def test_terms_of_tests(self):
        text = "rule f sum x #c to x if unlike 0 "
        self.hold(("words", text + nested(5, "#c"), 2, ((1, 0), 0)), ("words", text + nested(5, "5"), 2, ((1, 0), 0)))
        self.refuse(("words", text + nested(6, "#c"), 2, ((1, 0), 0)), ("words", text + nested(6, "5"), 2, ((1, 0), 0)))
        twelve = "and and and 1 1 and 1 1 or not 1 1"
        self.hold(("words", text + twelve, 2, ((1, 0), 0)))
        self.refuse(("words", text + twelve.replace("not 1", "and 1 1"), 2, ((1, 0), 0)))

    def test_widths(self):
        rule = "rule f sum x 1 to x"
        self.hold(*[("words", rule, width, ((0,), 0)) for width in (1, 2, 3, 4)])
        self.refuse(*[("words", rule, width, ((0,), 0)) for width in (0, 5, -1, True, "2", None, (2,), 10 ** 39)])

    def test_how_many_worths(self):
        for text, widths in (("sum x sum y z to x", 3), ("sum x sum y #c to x", 3), ("sum sum x #c #d to x", 3),
                             ("sum x y to x", 4), ("sum x #c to x", 4), ("sum #d #c to #d", 4)):
            rule = read_rule(f"rule f {text}")
            for width in (1, 2, 3, 4):
                self.assertIs(finding_holds(("words", str(rule), width, judged(rule, width=width))), width <= widths, text)

    def test_serial_rules_of_two_inputs_and_seven_things(self):
        def of(text):
            rule = read_rule(f"rule f {text}")
            kind, *paper = decide(rule, most=5000)
            return ("every", str(rule), paper[0]) if kind == "right" else ("against", str(rule), tuple(paper))
        self.hold(of("and x and x and x y to and and x x and x y"), of("or x 1 to and x 0"))
        self.refuse(of("and x and y z to and and x y z"), of("and x and y z to or x y"),
                    of("not and x and x and x x to not x"), of("not x to not and x and x and x x"),
                    of("not and x and x and x x to x"))
        self.refuse(("weakest", "rule f not and x and x and x #c to x", *WEAKEST[2:]))
        for word in ("every", "against"):
            self.refuse((word, "rule f times x 1 to x", ()), (word, "rule f left x 0 to x", EVERY[2]),
                        (word, "rule f times x 1 to left x 0", ((0,), ((0,),))))

    def test_programs(self):
        def of(inputs, lines, outs, width, told):
            rows = [f"width {width}", f"in {inputs}".strip(), *lines]
            texts = ["\n".join([*rows, f"out {outs} 0"]), "\n".join([*rows, f"out {outs} 1"])]
            thing = refined(*[read_program(text) for text in texts])
            self.assertIsNotNone(thing)
            self.assertIs(finding_holds(("worse", *texts, thing)), told, texts)
        of("", ["not 1"] * 12, "@0 @1", 4, True)
        of("", ["not 1"] * 13, "@0 @1", 4, False)
        of("", ["not 1"], "@0 5", 4, True)
        of("", ["not 1"], "@0 5 5", 4, False)
        of("a b c", [], "1", 4, True)
        of("a b c", [], "a", 4, False)
        of("a b c", [], "a", 3, True)
        of("a b c d", [], "1", 1, False)
        of("a", ["sum a a"], "@0", 4, True)
        of("a", ["sum a a"], "@0 a", 4, False)
        of("a", ["sum a a"], "@0 a", 3, True)
        of("a", ["sum a a", "froze @0"], "@1 a", 3, False)
        of("a", ["sum a a", "froze @0"], "@1 @0", 3, True)
        of("", ["froze 1"] * 3, "@1 @0", 4, True)
        of("", ["froze 1"] * 4, "@1 @0", 4, False)
        of("a", ["choice same a a a a", "choice same a a a a", "sum a a"], "@1 a", 1, True)
        of("a", ["choice same a a a a", "choice same a a a a", "sum a a"], "a a", 1, False)
        of("a", ["sum a a", "sum a a"], "@1 a", 2, True)
        of("a", ["sum a a", "sum a a"], "a a", 2, False)

    def test_great_texts(self):
        self.refuse(("every", nested(990, "x"), ()), ("every", f"rule f {nested(990, 'x')} to x", ()),
                    ("worse", "width 1\nin\n" + "not 0\n" * 600 + "out 1", ONE, None))


class OtherKinds(Case):
    def test_spoilt_in_one_place(self):
        chance = random.Random("spoilt")
        for thing in ALL:
            self.refuse(*[other for other in spoilt(thing, chance, 60) if other != thing])
            self.refuse(thing[:-1], (*thing, None), (*thing, thing[-1]), list(thing), thing[1:], (thing,), thing[::-1])

    def test_texts(self):
        for thing in ALL:
            for text in (thing[1] + " ", " " + thing[1], thing[1].upper(), thing[1] + "\n", "", "rule", thing[1].replace(" ", "  ", 1),
                         None, 1, True, [thing[1]], (thing[1],)):
                self.refuse(put_at(thing, (1,), text))
        for rule in (read_rule(TWICE), [TWICE]):
            self.refuse(("words", rule, 2, WORDS[3]))
        self.refuse(("worse", read_program(ONE), OTHER, WORSE[3]), ("worse", ONE, read_program(OTHER), WORSE[3]),
                    ("worse", ONE, ORDER, WORSE[3]), ("every", ONE, EVERY[2]), ("worse", ORDER, ORDER, WORSE[3]))

    def test_words(self):
        for thing in ALL:
            for word in ("Words", "", "word", "words ", None, 0, True, ("words",), ["words"], {"words": 1}, "paper", "right"):
                self.refuse((word, *thing[1:]))

    def test_of_anything(self):
        for thing in odd_things():
            self.refuse(thing, (thing,), (thing, thing), (thing,) * 3, (thing,) * 4, (thing,) * 5)
            for known in ALL:
                for at in range(len(known)):
                    if thing != known[at] or isinstance(thing, bool):
                        self.refuse(put_at(known, (at,), thing))


class Calls(unittest.TestCase):
    def test_by_places_and_names(self):
        self.assertEqual(str(inspect.signature(finding_holds)), "(thing)")
        self.assertEqual(finding_holds.__module__, findings.__name__)
        self.assertIs(finding_holds(thing=WORDS), True)

    def test_the_same_again_and_what_is_handed_in_stays(self):
        asked = [*ALL, *odd_things(), ("every", TWICE, EVERY[2]), ("worse", OTHER, ONE, WORSE[3])]
        ahead = repr(asked)
        first = [finding_holds(thing) for thing in asked]
        self.assertEqual([finding_holds(thing) for thing in reversed(asked)], first[::-1])
        self.assertEqual(repr(asked), ahead)
        for thing in odd_things():
            assert_keeps(self, finding_holds, thing)
            assert_keeps(self, lambda one: finding_holds(("every", ORDER, one)), thing)
