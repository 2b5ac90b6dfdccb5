"""Rules of their texts (points 2, 7 and 10)."""

import inspect
import unittest

from poisonrules import ruletexts
from poisonrules.errors import NoText
from poisonrules.rules import Rule
from poisonrules.ruletexts import read_rule

from helper import A, C, assert_keeps, chance_rules, num, odd_things

TEXT = "rule f sum.u a #c to less a not #c if below #c 3 , unlike twice #c 0"
GOOD = [
    TEXT, "rule a not a to a", "rule abcdefgh sum a a to twice a", "rule f and a #c to -1 if same #c 0",
    "rule f and a #c to a if same #c #c , under #c 1 , below 2 #c", "rule f not 1 to 0 if unlike 1 -99",
    "rule f choice same a #c b 0 to choice below #c a 0 b", "rule look and look #look to look if same #look 1",
]
BAD_ONES = [
    "", "rule", "rule f", "rule f not a", "rule f not a to", "rule f to a", "rule not a to a", "not a to a",
    "rule f not a a", "rule f not a to a to a", "rule f not a to to a", "rule f not to a", "f not a to a",
    "rule  f not a to a", "rule f  not a to a", "rule f not a to  a", "rule f not a  to a", " rule f not a to a",
    "rule f not a to a ", "rule f not a to a\n", "rule\nf not a to a", "Rule f not a to a", "Rule(rule f not a to a)",
    "rule F not a to a", "rule sum not a to a", "rule rule not a to a", "rule abcdefghi not a to a", "rule 1 not a to a",
    "rule f a to a", "rule f #c to #c", "rule f 0 to 0", "rule f not a to b", "rule f not a to #a", "rule f not #c to c",
    "rule f not a to a if", "rule f not a to a if ", "rule f not a to a ,", "rule f not a to a , same 0 0",
    "rule f not #c to 0 if same #c", "rule f not #c to 0 if #c 0", "rule f not #c to 0 if same #c 0 0",
    "rule f not #c to 0 if same #c 0 ,", "rule f not #c to 0 if , same #c 0", "rule f not #c to 0 if same #c 0 , ",
    "rule f not #c to 0 if same #c 0 same #c 1", "rule f not #c to 0 if same #c 0 , , same #c 1",
    "rule f not #c to 0 if same #c 0, same #c 1", "rule f not #c to 0 if same #c 0 if same #c 1",
    "rule f not #c to 0 if above #c 0", "rule f not #c to 0 if same #d 0", "rule f not #c to 0 if same #c a",
    "rule f not a to 0 if same a 0", "rule f and a #c to 0 if same sum.u #c 1 0", "rule f not #c to 0 if not #c",
    "rule f and a #c to 0 if same froze #c 0", "rule f and a #c to 0 if same times #c 2 0",
    "rule f not #c if same #c 0 to 0", "rule f if same #c 0 not #c to 0", "rule f not #c to 0 if same #c -0",
    "rule f not #c to 00", "rule f not #c to 100", "rule f sum. a a to a", "rule f and.u a a to a", "rule f sum.su a a to a",
    "rule f not #c to 0 if same choice same #c 0 1 2 0", "rule f not a , to a", "rule f not a to a if to same 0 0",
]


class Read(unittest.TestCase):
    def test_fields(self):
        rule = read_rule(TEXT)
        self.assertIs(rule.__class__, Rule)
        self.assertEqual((rule.name, rule.old, rule.new), ("f", ("sum", "u", A, C), ("less", "", A, ("not", C))))
        self.assertEqual(rule.cond, (("below", C, num(3)), ("unlike", ("twice", "", C), num(0))))

    def test_what_is_so_written(self):
        for text in GOOD:
            self.assertEqual(str(read_rule(text)), text)

    def test_rules_by_chance(self):
        for old, new, cond in chance_rules("texts", 200, room=12):
            rule = Rule("abc", old, new, cond=cond)
            self.assertEqual(read_rule(str(rule)), rule)

    def test_what_is_not(self):
        for text in BAD_ONES:
            with self.assertRaises(NoText, msg=text) as caught:
                read_rule(text)
            self.assertIs(caught.exception.__class__, NoText)

    def test_each_word_left_out_or_twice_or_another(self):
        for text in GOOD:
            words = text.split(" ")
            for at in range(len(words)):
                self.assert_read_back(" ".join(words[:at] + words[at + 1:]))
                self.assert_read_back(" ".join(words[:at + 1] + words[at:]))
                for word in ("", "same", "sum", "not", "a", "b", "#d", "-0", "to", "if", ",", "rule"):
                    self.assert_read_back(" ".join([*words[:at], word, *words[at + 1:]]))

    def assert_read_back(self, text):
        """text is refused, or it is the text of the rule that is read."""
        try:
            rule = read_rule(text)
        except NoText:
            return
        self.assertEqual(str(rule), text)

    def test_a_hundred_within_one_another(self):
        for many in (99, 100):
            for text in (f"rule f {'not ' * many}a to a", f"rule f not a to {'not ' * many}a",
                         f"rule f and a #c to a if same {'not ' * many}#c 0",
                         f"rule f and a #c to a if same 0 {'not ' * many}#c"):
                if many == 99:
                    self.assertEqual(str(read_rule(text)), text)
                    continue
                with self.assertRaises(NoText):
                    read_rule(text)

    def test_of_anything(self):
        for thing in [*odd_things(), Rule("f", ("not", A), A).name, ("rule f not a to a",), ["rule f not a to a"]]:
            with self.assertRaises(NoText):
                read_rule(thing)


class Calls(unittest.TestCase):
    def test_by_places_and_names(self):
        self.assertEqual(str(inspect.signature(read_rule)), "(text)")
        self.assertEqual(read_rule(text=TEXT), read_rule(TEXT))
        self.assertEqual(read_rule.__module__, ruletexts.__name__)

    def test_what_is_handed_in_stays(self):
        for thing in odd_things():
            assert_keeps(self, read_rule, thing)

    def test_the_same_again_and_nothing_shared(self):
        told = [read_rule(text) for text in GOOD]
        for text in BAD_ONES:
            self.assertRaises(NoText, read_rule, text)
        again = [read_rule(text) for text in GOOD]
        self.assertEqual(again, told)
        for one, other in zip(told, again):
            self.assertIsNot(one, other)
