"""Names, terms, tests and what stands in them (points 2, 4, 5, 6)."""

import inspect
import unittest

from poisonrules import terms
from poisonrules.terms import consts_of, inputs_of, is_name, is_term, is_test, things_of

from helper import A, B, C, D, assert_keeps, chance_terms, nested, num, odd_things

KEPT = ("and below choice copy froze if in left less not or out quot rest right rule same sum times to twice under"
        " unlike width xor").split()
TWO_PARTS = ("and", "or", "xor", "times", "quot", "rest", "left", "right")
GOOD = [
    A, C, num(0), num(-99), num(99), ("look", "look"), ("look", "abcdefgh"), ("const", "a"),
    *[(head, flags, A, C) for head in ("sum", "less") for flags in ("", "u", "s", "us")],
    *[("twice", flags, A) for flags in ("", "u", "s", "us")],
    *[(head, A, num(3)) for head in TWO_PARTS], ("not", A), ("froze", A),
    *[("choice", (r, A, C), B, num(1)) for r in ("same", "below", "under")],
]


class Names(unittest.TestCase):
    def test_names(self):
        for name in ("a", "z", "ab", "abcdefgh", "zzzzzzzz", "look", "const", "num", "line", "test", "sums", "no"):
            self.assertIs(is_name(name), True, name)

    def test_kept_words_are_none(self):
        self.assertEqual(len(KEPT), 25)
        for word in KEPT:
            self.assertIs(is_name(word), False, word)

    def test_lengths(self):
        self.assertIs(is_name(""), False)
        self.assertIs(is_name("abcdefghi"), False)

    def test_other_signs(self):
        for text in ("A", "aB", "a1", "1", "a b", " a", "a ", "a\n", "\n", "a_b", "a.u", "#a", "-", "\u00e9", "\u0430"):
            self.assertIs(is_name(text), False, text)

    def test_other_kinds(self):
        for thing in (None, True, 0, 1, ("a",), ["a"], {"a": 1}, ("look", "a"), b"a"):
            self.assertIs(is_name(thing), False)


class Terms(unittest.TestCase):
    def test_every_form(self):
        for term in GOOD:
            self.assertIs(is_term(term), True, term)

    def test_flags(self):
        for flags in ("su", "uu", "U", "x", " ", None, 0, ["u"], ("u",), True):
            self.assertIs(is_term(("sum", flags, A, B)), False)
            self.assertIs(is_term(("less", flags, A, B)), False)
            self.assertIs(is_term(("twice", flags, A)), False)

    def test_flags_left_out_or_on_words_without(self):
        for thing in [("sum", A, B), ("twice", A), *[(head, "", A, B) for head in TWO_PARTS], ("not", "", A),
                      ("froze", "u", A), ("num", "", 1), ("look", "u", "a")]:
            self.assertIs(is_term(thing), False, thing)

    def test_nums(self):
        for number in range(-99, 100):
            self.assertIs(is_term(num(number)), True)
        for thing in (-100, 100, 10 ** 39, -(10 ** 39), True, False, None, "1", "", (1,), [1], {}):
            self.assertIs(is_term(num(thing)), False)

    def test_names_in_leaves(self):
        for head in ("look", "const"):
            for thing in ("", "sum", "abcdefghi", "A", 1, None, True, A, ["a"], {}):
                self.assertIs(is_term((head, thing)), False)

    def test_parts_left_out_or_twice(self):
        for term in GOOD:
            self.assertIs(is_term(term[:-1]), False, term)
            self.assertIs(is_term((*term, term[-1])), False, term)
            self.assertIs(is_term((*term, A)), False, term)

    def test_lists_in_the_place_of_tuples(self):
        for term in GOOD:
            self.assertIs(is_term(list(term)), False, term)
            self.assertIs(is_term(("not", list(term))), False, term)
        self.assertIs(is_term(("choice", ["same", A, B], A, B)), False)

    def test_each_part_is_looked_at(self):
        for term in GOOD:
            for at in range(len(term)):
                for wrong in (None, [], {}, True, 10 ** 39, ("num", True), ["look", "a"], (), "SUM"):
                    self.assertIs(is_term((*term[:at], wrong, *term[at + 1:])), False, (term, at, wrong))

    def test_choices(self):
        for r in ("unlike", "above", "", None, 1, True, ["same"]):
            self.assertIs(is_term(("choice", (r, A, B), A, B)), False)
        for triple in ((), ("same",), ("same", A), ("same", A, B, A), None, "same"):
            self.assertIs(is_term(("choice", triple, A, B)), False)
        for at in range(4):
            parts = [A, B, A, B]
            parts[at] = num(True)
            self.assertIs(is_term(("choice", ("same", *parts[:2]), *parts[2:])), False)

    def test_greater_than_the_bounds(self):
        self.assertIs(is_term(nested(3000, lambda one: ("not", one), A)), True)
        self.assertIs(is_term(nested(3000, lambda one: ("not", one), None)), False)
        self.assertIs(is_term(nested(9, lambda one: ("sum", "u", one, one), A)), True)
        many = nested(30, lambda one: ("choice", ("below", one, A), B, C), A)
        self.assertIs(is_term(many), True)
        self.assertEqual(len(things_of(many)), 121)

    def test_of_anything(self):
        for thing in odd_things():
            self.assertIs(is_term(thing), False)
            self.assertIs(is_term(("not", thing)), False)
            self.assertIs(is_term(("choice", ("same", A, thing), A, A)), False)
            self.assertIs(is_term(("choice", thing, A, A)), False)


class Tests(unittest.TestCase):
    def test_every_form(self):
        for r in ("same", "unlike", "below", "under"):
            self.assertIs(is_test((r, C, num(3))), True)
        for side in [C, num(-99), ("and", C, D), ("or", C, D), ("xor", C, D), ("not", C), ("sum", "", C, D),
                     ("less", "", C, num(1)), ("twice", "", C), ("not", ("twice", "", ("sum", "", C, C)))]:
            self.assertIs(is_test(("same", side, C)), True, side)
            self.assertIs(is_test(("same", num(0), side)), True, side)

    def test_terms_that_are_none_of_a_tests(self):
        for side in [A, ("times", C, D), ("quot", C, D), ("rest", C, D), ("left", C, D), ("right", C, D), ("froze", C),
                     ("choice", ("same", C, C), C, C), ("not", A), ("not", ("not", ("froze", C))),
                     *[(head, flags, C, D) for head in ("sum", "less") for flags in ("u", "s", "us")],
                     *[("twice", flags, C) for flags in ("u", "s", "us")], ("or", C, ("twice", "u", C))]:
            self.assertIs(is_test(("same", side, C)), False, side)
            self.assertIs(is_test(("below", C, side)), False, side)

    def test_other_kinds(self):
        for thing in [("above", C, C), ("same", C), ("same", C, C, C), ["same", C, C], ("same", list(C), C), (),
                      ("same", C, num(True)), (None, C, C), (["same"], C, C), ("same", None, C), ("same", C, {})]:
            self.assertIs(is_test(thing), False, thing)

    def test_greater_than_the_bounds(self):
        self.assertIs(is_test(("under", nested(3000, lambda one: ("not", one), C), D)), True)
        self.assertIs(is_test(("under", nested(3000, lambda one: ("not", one), A), D)), False)

    def test_of_anything(self):
        for thing in odd_things():
            self.assertIs(is_test(thing), False)
            self.assertIs(is_test(("same", thing, C)), False)
            self.assertIs(is_test((thing, C, C)), False)


class Within(unittest.TestCase):
    def test_things_as_written(self):
        choice = ("choice", ("below", A, ("not", C)), ("sum", "u", B, A), num(0))
        self.assertEqual(things_of(choice), (
            choice, A, ("not", C), C, ("sum", "u", B, A), B, A, num(0)))

    def test_things_of_each_form(self):
        for term in GOOD:
            parts = [part for part in term[1:] if isinstance(part, tuple)]
            if term[0] == "choice":
                parts[:1] = parts[0][1:]
            self.assertEqual(things_of(term), (term, *parts), term)
            self.assertEqual(things_of(("xor", term, ("not", B))), (("xor", term, ("not", B)), term, *parts, ("not", B), B))

    def test_things_stand_as_often_as_written(self):
        self.assertEqual(things_of(("and", A, A)), (("and", A, A), A, A))

    def test_a_look_alone(self):
        self.assertEqual(things_of(A), (A,))

    def test_inputs_and_constants_rise_each_once(self):
        names = ["z", "b", "ab", "a", "b", "z"]
        term = num(1)
        for name in names:
            term = ("or", ("and", ("look", name), ("const", name + "k")), term)
        self.assertEqual(inputs_of(term), ("a", "ab", "b", "z"))
        self.assertEqual(consts_of(term), ("abk", "ak", "bk", "zk"))

    def test_an_input_called_like_a_constant(self):
        term = ("sum", "", ("look", "c"), C)
        self.assertEqual((inputs_of(term), consts_of(term)), (("c",), ("c",)))

    def test_none(self):
        self.assertEqual((inputs_of(num(5)), consts_of(num(5))), ((), ()))
        self.assertEqual((inputs_of(C), consts_of(A)), ((), ()))

    def test_of_a_choices_test_too(self):
        term = ("choice", ("same", B, D), A, C)
        self.assertEqual((inputs_of(term), consts_of(term)), (("a", "b"), ("c", "d")))

    def test_tuples_of_greater_terms(self):
        deep = nested(3000, lambda one: ("not", one), ("less", "", B, ("less", "", C, A)))
        self.assertEqual(len(things_of(deep)), 3005)
        self.assertEqual((inputs_of(deep), consts_of(deep)), (("a", "b"), ("c",)))


class Calls(unittest.TestCase):
    def test_by_places_and_names(self):
        for word, name in (("is_name", "thing"), ("is_term", "thing"), ("is_test", "thing"), ("things_of", "term"),
                           ("inputs_of", "term"), ("consts_of", "term")):
            call = getattr(terms, word)
            self.assertEqual(str(inspect.signature(call)), f"({name})")
            self.assertEqual(call.__module__, "poisonrules.terms")
            self.assertEqual(call(**{name: A}), call(A))

    def test_what_is_handed_in_stays(self):
        for thing in odd_things():
            for call in (is_name, is_term, is_test):
                assert_keeps(self, call, thing)
        for term in chance_terms("stay", 40):
            for call in (is_term, things_of, inputs_of, consts_of):
                assert_keeps(self, call, term)

    def test_the_same_again(self):
        asked = chance_terms("again", 40)
        calls = (is_name, is_term, is_test, things_of, inputs_of, consts_of)
        told = [[call(term) for call in calls] for term in asked]
        self.assertEqual([[call(term) for call in calls] for term in asked], told)
