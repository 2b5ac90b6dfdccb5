"""The refusals and the numbers that stand for other worths (points 2 and 8, the interface's first row)."""

import unittest

from poisonrules import errors, kinds

from helper import odd_things

WITH_TEXT = ("NoText", "NoRule", "NoProgram", "NoDeed")
FIELDS = {"TooMany": "most", "Wrong": "paper", "Taken": "name", "NoFit": "line", "NoBack": "many", "NoName": "name"}


class Classes(unittest.TestCase):
    def test_rule_error_is_a_value_error(self):
        self.assertEqual(errors.RuleError.__bases__, (ValueError,))

    def test_all_but_no_name_stand_straight_under_rule_error(self):
        for word in (*WITH_TEXT, *FIELDS):
            above = KeyError if word == "NoName" else errors.RuleError
            self.assertEqual(getattr(errors, word).__bases__, (above,), word)

    def test_no_name_is_no_rule_error(self):
        self.assertFalse(issubclass(errors.NoName, (errors.RuleError, ValueError)))

    def test_none_is_caught_as_another(self):
        every = [getattr(errors, word) for word in (*WITH_TEXT, *FIELDS)]
        for one in every:
            self.assertEqual([other for other in every if issubclass(one, other)], [one])

    def test_each_is_defined_in_its_file(self):
        for word in ("RuleError", *WITH_TEXT, *FIELDS):
            self.assertEqual(getattr(errors, word).__module__, "poisonrules.errors")


class Fields(unittest.TestCase):
    def test_made_with_a_text(self):
        for word in WITH_TEXT:
            self.assertEqual(str(getattr(errors, word)("why so")), "why so")

    def test_field_by_its_place_and_by_its_name(self):
        for word, field in FIELDS.items():
            made = getattr(errors, word)
            self.assertEqual(getattr(made(5), field), 5)
            self.assertEqual(getattr(made(**{field: "b"}), field), "b")

    def test_field_of_anything(self):
        for word, field in FIELDS.items():
            for thing in odd_things():
                refusal = getattr(errors, word)(thing)
                self.assertIs(getattr(refusal, field), thing)
                self.assertIsInstance(str(refusal), str)

    def test_raised_and_caught(self):
        for word, field in FIELDS.items():
            with self.assertRaises(getattr(errors, word)) as caught:
                raise getattr(errors, word)((1, 2))
            self.assertEqual(getattr(caught.exception, field), (1, 2))


class Kinds(unittest.TestCase):
    def test_the_five_numbers(self):
        told = (kinds.ANY, kinds.BAD, kinds.FAULT, kinds.WIDTH, kinds.MOST)
        self.assertEqual(told, (-1, -2, -3, 2, 200))
        self.assertEqual([one.__class__ for one in told], [int] * 5)
