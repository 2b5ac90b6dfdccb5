"""A Desk (point 26)."""

import inspect
import random
import unittest

from poisonrules import desk
from poisonrules.desk import Desk
from poisonrules.errors import NoBack, NoFit, NoName, NoText, Taken, TooMany, Wrong
from poisonrules.judging import judged
from poisonrules.programs import Program
from poisonrules.progtexts import read_program
from poisonrules.proving import decide
from poisonrules.rules import Rule
from poisonrules.ruletexts import read_rule

from helper import assert_keeps, chance_program, chance_rules, odd_things

ORDER = "rule order sum x y to sum y x"
PLAIN = "width 2 ; in a b ; sum a b ; sum @0 0 ; out @1 a"


def filled():
    one = Desk()
    one.say(ORDER)
    one.say(f"lay p {PLAIN}")
    return one


class Case(unittest.TestCase):
    def refuse(self, one, kind, text, **fields):
        ahead = [one.say("rules"), [one.say(f"show {name}") for name in ("p",)]]
        with self.assertRaises(kind, msg=text) as caught:
            one.say(text)
        self.assertIs(caught.exception.__class__, kind, text)
        for field, told in fields.items():
            self.assertEqual(getattr(caught.exception, field), told)
        self.assertEqual([one.say("rules"), [one.say(f"show {name}") for name in ("p",)]], ahead)


class Rows(Case):
    def test_each_row(self):
        one = Desk()
        for text, told in ((ORDER, "ok"), ("rule gone sum x #c to x if same #c 0", "ok"), (f"lay p {PLAIN}", "ok"),
                           ("rules", "gone order"), ("show p", PLAIN), ("step p order 0", "ok"),
                           ("show p", "width 2 ; in a b ; sum b a ; sum @0 0 ; out @1 a"), ("step p gone 1", "ok"),
                           ("show p", "width 2 ; in a b ; sum b a ; copy @0 ; out @1 a"), ("freeze p", "ok"),
                           ("show p", "width 2 ; in a b ; froze a ; froze b ; sum @1 @0 ; copy @2 ; out @3 @0"),
                           ("merge p", "ok"), ("bare p", "ok"), ("out gone", "ok"), ("rules", "order"),
                           ("show p", "width 2 ; in a b ; sum b a ; sum @0 0 ; out @1 a"), ("back 3", "ok"),
                           ("rules", "gone order"), ("show p", PLAIN), ("back 0", "ok"), ("rules", "none")):
            self.assertEqual(one.say(text), told, text)

    def test_programs_without_inputs_or_lines(self):
        one = Desk()
        for at, text in enumerate(("width 1 ; in ; out -99", "width 4 ; in a ; out a a", "width 2 ; in ; not 1 ; out @0")):
            self.assertEqual(one.say(f"lay {'abc'[at]} {text}"), "ok")
            self.assertEqual(one.say(f"show {'abc'[at]}"), text)

    def test_shown_programs_may_be_laid_again(self):
        chance = random.Random("shown")
        for _ in range(100):
            inputs, lines, outs, width = chance_program(chance, most=30)
            text = str(Program(inputs, lines, outs, width=width))
            one = Desk()
            one.say("lay p " + text.replace("\n", " ; "))
            told = one.say("show p")
            self.assertEqual(told.replace(" ; ", "\n"), text)
            self.assertEqual(one.say(f"lay q {told}"), "ok")

    def test_worths(self):
        one = Desk()
        for text, told in (("sum x y to sum y x", "right"), ("twice x to sum x x", "wrong 1 any 1"),
                           ("not 0 to 0", "wrong 1 0"), ("sum x 1 to sum.u x 1", "wrong 1 any bad"),
                           ("sum x 4 to x", "right"), ("sum x 2 to x", "wrong 2 0 0"),
                           ("and x 1 to quot x 1", "wrong 2 any 2"), ("not x to quot 1 x", "wrong 1 bad fault"),
                           ("sum x #c to x", "wrong 1 1 0 0"), ("sum x #c to x if same #c 0", "right")):
            self.assertEqual(one.say(f"worths rule f {text}"), told, text)
        self.assertEqual(one.say("rules"), "none")

    def test_worths_of_rules_by_chance(self):
        one = Desk()
        words = {-1: "any", -2: "bad", -3: "fault"}
        for old, new, cond in chance_rules("worths", 60):
            rule = Rule("f", old, new, cond=cond)
            told = one.say(f"worths {rule}").split(" ")
            found = [(width, judged(rule, width=width)) for width in (1, 2)]
            found = [(width, *against) for width, against in found if against is not None]
            if not found:
                self.assertEqual(told, ["right"])
            else:
                width, worths, outcome = found[0]
                self.assertEqual(told, ["wrong", str(width), *[words.get(worth, str(worth)) for worth in (*worths, outcome)]])

    def test_desks_share_nothing(self):
        one, other = filled(), Desk()
        self.assertEqual(other.say("rules"), "none")
        other.say(ORDER)
        other.say("out order")
        self.assertEqual((one.say("rules"), other.say("rules")), ("order", "none"))


class AsTheBench(Case):
    def test_refusals(self):
        one = filled()
        self.refuse(one, Taken, ORDER, name="order")
        self.refuse(one, Wrong, "rule lost sum x 1 to x", paper=decide(read_rule("rule lost sum x 1 to x"))[1:])
        worse = read_rule("rule worse times x 2 to sum x 1")
        self.refuse(one, Wrong, str(worse), paper=(1, *judged(worse, width=1)))
        self.refuse(one, TooMany, "rule great sum sum x y sum x y to sum sum y x sum y x", most=200)
        self.refuse(one, Taken, f"lay p {PLAIN}", name="p")
        self.refuse(one, NoName, f"lay P {PLAIN}", name="P")
        self.refuse(one, NoName, f"lay sum {PLAIN}", name="sum")
        self.refuse(one, NoName, "step q order 0", name="q")
        self.refuse(one, NoName, "step p none 0", name="none")
        self.refuse(one, NoFit, "step p order 2", line=2)
        self.refuse(one, NoFit, "step p order 999", line=999)
        for word in ("out", "freeze", "merge", "bare", "show"):
            self.refuse(one, NoName, f"{word} q", name="q")
        self.refuse(one, NoBack, "back 3", many=3)
        self.refuse(one, NoBack, "back " + "9" * 3000, many=int("9" * 3000))

    def test_a_name_is_any_one_word(self):
        one = filled()
        for word in ("P", "p;", ";", "#p", "0", "-1", "if", "order\n", "\n", "a\nb", "out", "~" * 3000, "p\t"):
            for row in ("out", "freeze", "merge", "bare", "show"):
                self.refuse(one, NoName, f"{row} {word}", name=word)
            self.refuse(one, NoName, f"step {word} order 0", name=word)
            self.refuse(one, NoName, f"step p {word} 0", name=word)
            self.refuse(one, NoName, f"lay {word} {PLAIN}", name=word)

    def test_empty_names(self):
        one = filled()
        for row in ("out ", "freeze ", "merge ", "bare ", "show ", "step  order 0", "step p  0", "step   0", f"lay  {PLAIN}"):
            self.refuse(one, NoName, row, name="")


class NoRows(Case):
    def test_words_left_out_or_too_many(self):
        one = filled()
        for row in ("out", "freeze", "merge", "bare", "show", "lay", "step", "back", "rule", "worths", "", " ", "  ", "out p q",
                    "out  ", "out order ", " out order", "freeze p p", "show p ", "show  p", "merge p 0", "bare  p", "rules ",
                    " rules", "rules order", "step p order", "step p order ", "step p order 0 ", "step p order 0 0", "step  p",
                    "step p  order 0", "back ", "back  0", "back 0 ", "back 0 0", "rule order", "worths", "worths ",
                    "worths order", f"worths  {ORDER}", f"worths {ORDER} ", f"{ORDER} ", f" {ORDER}", "ok", "none", "run",
                    "put order", "deeds", "log", "story p", "program p", "Rules", "RULES", "rules;"):
            self.refuse(one, NoText, row)

    def test_numbers(self):
        one = filled()
        for word in ("00", "01", "-0", "-1", "+1", "1.", "a", "@0", "#0", "0x1", "\u0661", "\u00b2", "1_0", "0\n", "\n0", "0\t",
                     "9" * 100 + "x", "True", "None", ";"):
            self.refuse(one, NoText, f"step p order {word}")
            self.refuse(one, NoText, f"back {word}")
            self.refuse(one, NoText, f"step none none {word}")

    def test_line_ends_outside_of_names(self):
        one = filled()
        self.refuse(one, NoText, "lay q " + PLAIN.replace(" ; ", "\n"))
        self.refuse(one, NoText, "lay q " + PLAIN.replace(" ; ", "\n", 1))
        self.refuse(one, NoText, f"lay q {PLAIN}\n")
        self.refuse(one, NoText, f"lay q \n{PLAIN}")
        for row in ("rules\n", "\nrules", "out\norder", "\nout order", "back\n0", "step\np order 0", f"{ORDER}\n",
                    ORDER.replace(" ", "\n"), ORDER.replace(" to ", "\nto "), f"worths\n{ORDER}", f"worths {ORDER}\n", "show\np"):
            self.refuse(one, NoText, row)

    def test_programs(self):
        one = filled()
        for text in ("", " ", ";", " ; ", "width 2", "width 2 ; in", "width 2; in ; out 0", "width 2 ;in ; out 0",
                     "width 2 ; in ; out 0 ; ", " ; width 2 ; in ; out 0", "width 2 ;  ; in ; out 0", "width 2 ; ; in ; out 0",
                     "width 2 ; in  ; out 0", "width 2  ; in ; out 0", "width 5 ; in ; out 0", "width 2 ; in b a ; out 0",
                     "width 2 ; in a ; not @0 ; out 0", "width 2 ; in ; out a", "width 2 , in , out 0", "width 2 ; in ; out 0 ;"):
            self.refuse(one, NoText, f"lay q {text}")
            self.refuse(one, NoText, f"lay p {text}")
            self.refuse(one, NoText, f"lay  {text}")
            self.refuse(one, NoText, f"lay sum {text}")
        self.refuse(one, NoText, f"lay {PLAIN}")
        self.refuse(one, NoText, f"lay p q {PLAIN}")

    def test_rules(self):
        one = filled()
        for text in ("rule order x to x", "rule sum sum x y to x", "rule a sum x y", "rule a sum x y to z", "rule  sum x y to x",
                     "rule order sum x y to", "rule a sum x y to x if", "rule a sum x y ; to x", "Rule a not x to x"):
            self.refuse(one, NoText, text)
            self.refuse(one, NoText, f"worths {text}")

    def test_of_anything(self):
        one = filled()
        for thing in [*odd_things(), read_rule(ORDER), read_program("width 2\nin\nout 0"), Desk(), b"rules", ["rules"], ("rules",)]:
            self.refuse(one, NoText, thing)

    def test_nearly_rows(self):
        chance = random.Random("nearly")
        rows = [ORDER, f"lay q {PLAIN}", "step p order 0", "rules", "show p", "back 2", f"worths {ORDER}"]
        refused = 0
        for _ in range(700):
            row = chance.choice(rows)
            at = chance.randrange(len(row) + 1)
            text = row[:at] + chance.choice(" \n;@#.-0A~") + row[at + chance.randrange(2):]
            one = filled()
            try:
                self.assertIsInstance(one.say(text), str)
            except (NoText, NoName, NoFit, NoBack, Taken, Wrong, TooMany):
                refused += 1
        self.assertGreater(refused, 300)


class Calls(unittest.TestCase):
    def test_by_places_and_names(self):
        self.assertEqual(str(inspect.signature(Desk)), "()")
        self.assertEqual(str(inspect.signature(vars(Desk)["say"])), "(self, text)")
        self.assertEqual(Desk.__module__, desk.__name__)
        self.assertEqual(Desk().say(text="rules"), "none")

    def test_what_is_handed_in_stays(self):
        one = filled()
        for thing in odd_things():
            assert_keeps(self, one.say, thing)
