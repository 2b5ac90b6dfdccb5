"""Terms as texts (points 2 and 7)."""

import inspect
import unittest

from poisonrules import termtexts
from poisonrules.errors import NoText
from poisonrules.terms import is_term
from poisonrules.termtexts import read_term, show_term

from helper import A, B, C, assert_keeps, chance_terms, nested, num, odd_things

WRITTEN = [
    ("a", A), ("look", ("look", "look")), ("abcdefgh", ("look", "abcdefgh")), ("#c", C), ("#num", ("const", "num")),
    ("0", num(0)), ("7", num(7)), ("-1", num(-1)), ("99", num(99)), ("-99", num(-99)), ("10", num(10)),
    ("sum a b", ("sum", "", A, B)), ("sum.u a b", ("sum", "u", A, B)), ("sum.s a b", ("sum", "s", A, B)),
    ("sum.us a b", ("sum", "us", A, B)), ("less a b", ("less", "", A, B)), ("less.us a #c", ("less", "us", A, C)),
    ("twice a", ("twice", "", A)), ("twice.s -5", ("twice", "s", num(-5))), ("twice.us a", ("twice", "us", A)),
    ("and a b", ("and", A, B)), ("or a b", ("or", A, B)), ("xor a b", ("xor", A, B)), ("not a", ("not", A)),
    ("times a b", ("times", A, B)), ("quot a b", ("quot", A, B)), ("rest a b", ("rest", A, B)),
    ("left a b", ("left", A, B)), ("right a b", ("right", A, B)), ("froze a", ("froze", A)),
    ("choice same a #c b 0", ("choice", ("same", A, C), B, num(0))),
    ("choice below a b a b", ("choice", ("below", A, B), A, B)),
    ("choice under 1 not a froze b #c", ("choice", ("under", num(1), ("not", A)), ("froze", B), C)),
    ("sum less.u a b not xor b a", ("sum", "", ("less", "u", A, B), ("not", ("xor", B, A)))),
    ("choice same choice below a b 1 2 0 a choice under b a #c b",
     ("choice", ("same", ("choice", ("below", A, B), num(1), num(2)), num(0)), A, ("choice", ("under", B, A), C, B))),
]
UNWRITTEN = [
    "", " ", "a ", " a", "a  b", "sum  a b", "sum a  b", "sum a b ", " sum a b", "sum a b\n", "sum\ta b", "sum a\nb",
    "a b", "sum a", "sum a b a", "sum", "not", "not a b", "froze", "twice", "choice", "choice a b a b",
    "choice same a b a", "choice same a b a b a", "choice unlike a b a b", "choice same", "same a b",
    "same a b choice a b", "choice choice same a b a b", "sum same a b", "below", "not under",
    "sum. a b", "sum.su a b", "sum.uu a b", "sum.U a b", "sum.x a b", "sum.us. a b", "sum.u.s a b", "sum .u a b",
    "and.u a b", "not.s a", "froze.u a", "choice.u same a b a b", "times.u a b", "a.u", "#c.u", "1.u", ".u a b", ".",
    "-0", "00", "01", "-01", "007", "099", "100", "-100", "999", "1000", "--1", "-", "+1", "1_0", "1.0", "0x1", "9" * 4000,
    "#", "# c", "##c", "#C", "#sum", "#1", "#-1", "#abcdefghi", "c#", "abcdefghi", "A", "a1", "a_b", "(a)", "a,", ",",
    "to", "rule", "if", "copy a", "in", "out", "width", "unlike", "num 1", "look a", "const c", "Sum a b",
    "\u00b2", "\u0661", "not \u0661", "\u00e9", "-\u0661",
]


class Show(unittest.TestCase):
    def test_word_by_word(self):
        for text, term in WRITTEN:
            self.assertEqual(show_term(term), text)

    def test_deep_ones(self):
        deep = nested(3000, lambda one: ("not", one), A)
        self.assertEqual(show_term(deep), "not " * 3000 + "a")


class Read(unittest.TestCase):
    def test_what_is_so_written(self):
        for text, term in WRITTEN:
            self.assertEqual(read_term(text), term)
            self.assertIs(is_term(read_term(text)), True)

    def test_num_is_an_inputs_name(self):
        self.assertEqual(read_term("num"), ("look", "num"))

    def test_every_num(self):
        for number in range(-99, 100):
            self.assertEqual(read_term(str(number)), num(number))
            self.assertIs(read_term(str(number))[1].__class__, int)

    def test_what_is_not(self):
        for text in UNWRITTEN:
            with self.assertRaises(NoText, msg=repr(text)):
                read_term(text)

    def test_each_word_left_out_or_twice(self):
        for text, _ in WRITTEN:
            words = text.split(" ")
            for at in range(len(words)):
                self.assert_read_back(" ".join(words[:at] + words[at + 1:]))
                self.assert_read_back(" ".join(words[:at + 1] + words[at:]))
                for word in ("", "same", "sum", "not", "a", "-0", "#c", "to"):
                    self.assert_read_back(" ".join([*words[:at], word, *words[at + 1:]]))

    def assert_read_back(self, text):
        """text is refused, or it is the text of the term that is read."""
        try:
            term = read_term(text)
        except NoText:
            return
        self.assertIs(is_term(term), True)
        self.assertEqual(show_term(term), text)

    def test_terms_by_chance(self):
        for term in chance_terms("texts", 300, room=30):
            self.assertEqual(read_term(show_term(term)), term)

    def test_a_hundred_within_one_another(self):
        self.assertEqual(read_term("not " * 99 + "a"), nested(99, lambda one: ("not", one), A))
        for text in ("not " * 100 + "a", "sum a " * 100 + "a", "not " * 1999 + "a"):
            with self.assertRaises(NoText):
                read_term(text)

    def test_a_hundred_by_each_part_of_a_choice(self):
        for ahead, behind in (("", "a b 0"), ("a ", "b 0"), ("a b ", "0"), ("a b 0 ", "")):
            for many in (98, 99):
                text = ("choice same " + ahead + "not " * many + "a " + behind).strip(" ")
                if many == 98:
                    self.assertEqual(show_term(read_term(text)), text)
                    continue
                with self.assertRaises(NoText):
                    read_term(text)

    def test_many_side_by_side_are_not_deep(self):
        row = "a"
        for _ in range(8):
            row = f"and {row} {row}"
        self.assertEqual(show_term(read_term(row)), row)

    def test_of_anything(self):
        for thing in odd_things():
            with self.assertRaises(NoText):
                read_term(thing)


class Calls(unittest.TestCase):
    def test_by_places_and_names(self):
        self.assertEqual(str(inspect.signature(show_term)), "(term)")
        self.assertEqual(str(inspect.signature(read_term)), "(text)")
        self.assertEqual(show_term(term=A), "a")
        self.assertEqual(read_term(text="a"), A)
        for call in (show_term, read_term):
            self.assertEqual(call.__module__, termtexts.__name__)

    def test_what_is_handed_in_stays(self):
        for thing in odd_things():
            assert_keeps(self, read_term, thing)
        for _, term in WRITTEN:
            assert_keeps(self, show_term, term)

    def test_the_same_again(self):
        told = [read_term(text) for text, _ in WRITTEN]
        for text in UNWRITTEN:
            self.assertRaises(NoText, read_term, text)
        self.assertEqual([read_term(text) for text, _ in WRITTEN], told)
