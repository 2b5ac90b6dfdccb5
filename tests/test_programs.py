"""The class Program (point 19)."""

import inspect
import random
import re
import unittest

from poisonrules import programs
from poisonrules.errors import NoProgram, RuleError
from poisonrules.programs import Program
from poisonrules.rules import Rule

from helper import assert_keeps, nested, num, odd_things, spoilt

A = ("look", "a")
B = ("look", "b")


def line(number):
    return ("line", number)


FULL = (
    ("a", "b"),
    (("sum", "u", A, num(-3)), ("copy", line(0)), ("choice", ("same", line(1), B), num(0), line(0)), ("froze", A)),
    (line(2), A, num(7)),
    3,
)


def made(inputs=("a", "b"), lines=(), outs=(num(0),), width=2):
    return Program(inputs, lines, outs, width=width)


class Makes(unittest.TestCase):
    def test_fields(self):
        inputs, lines, outs, width = FULL
        program = Program(inputs, lines, outs, width=width)
        self.assertEqual((program.inputs, program.lines, program.outs, program.width), FULL)
        self.assertEqual(made().width, 2)
        self.assertEqual(Program((), (), (num(1),)).width, 2)

    def test_each_word(self):
        heads = ["and", "or", "xor", "times", "quot", "rest", "left", "right"]
        lines = [(head, A, num(1)) for head in heads] + [("not", A), ("froze", line(0)), ("copy", A)]
        lines += [(head, flags, A, B) for head in ("sum", "less") for flags in ("", "u", "s", "us")]
        lines += [("twice", flags, A) for flags in ("", "u", "s", "us")]
        lines += [("choice", (r, A, num(1)), line(0), B) for r in ("same", "below", "under")]
        self.assertEqual(len(made(lines=tuple(lines))), len(lines))

    def test_widths(self):
        for width in (1, 2, 3, 4):
            self.assertEqual(made(width=width).width, width)
        for width in (0, 5, -1, True, False, None, "2", (2,), [2], 10 ** 39, -(10 ** 39)):
            with self.assertRaises(NoProgram):
                made(width=width)

    def test_copies(self):
        for operand in (A, num(99), line(0)):
            made(lines=(("not", A), ("copy", operand), ("copy", line(1))))
        for copy in (("copy",), ("copy", A, A), ("copy", "", A), ("copy", ("not", A)), ("copy", ("copy", A)), ("copy", "a"),
                     ["copy", A], ("copy", [A]), ("copy", list(A)), ("copy", ("const", "a"))):
            with self.assertRaises(NoProgram):
                made(lines=(copy,))

    def test_outs_that_look_straight_at_an_input_or_a_num(self):
        for outs in ((A,), (num(-99),), (A, A, B), (num(0),) * 5):
            self.assertEqual(made(outs=outs).outs, outs)

    def test_inputs_that_nothing_looks_at(self):
        self.assertEqual(made(inputs=("x", "y", "z")).inputs, ("x", "y", "z"))

    def test_greater_ones(self):
        inputs = tuple(sorted(chr(97 + at % 26) * (1 + at // 26) for at in range(150) if at < 104))
        lines = tuple(("sum", "", ("look", inputs[at % 100]), line(at - 1) if at else num(1)) for at in range(3000))
        program = Program(inputs, lines, tuple(line(at) for at in range(3000)), width=4)
        self.assertEqual(len(program), 3000)
        self.assertEqual(program, Program(inputs, lines, program.outs, width=4))


class Refuses(unittest.TestCase):
    def refuse(self, **fields):
        with self.assertRaises(NoProgram, msg=fields) as caught:
            made(**fields)
        self.assertIsInstance(caught.exception, RuleError)

    def test_inputs(self):
        for inputs in (("b", "a"), ("a", "a"), ("a", "b", "a"), ("A",), ("sum",), ("",), ("a b",), ("abcdefghi",), ("a1",),
                       (1,), (True,), (None,), (("a",),), ["a"], "a", "ab", None, {"a": 1}, {}, [], 0, False):
            self.refuse(inputs=inputs)

    def test_lines_at_themselves_or_ahead(self):
        self.refuse(lines=(("not", line(0)),))
        self.refuse(lines=(("not", A), ("and", line(0), line(1))))
        self.refuse(lines=(("not", line(1)), ("not", A)))
        self.refuse(lines=(("not", A), ("copy", line(2)), ("not", A)))
        self.refuse(lines=(("not", A), ("choice", ("same", A, line(5)), A, A)))
        self.refuse(lines=(("not", A), ("not", line(-1))))

    def test_outs_at_lines_that_are_not_there(self):
        self.refuse(outs=(line(0),))
        for number in (1, 2, -1, True, False, 10 ** 39):
            self.refuse(lines=(("not", A),), outs=(line(number),))
        self.assertEqual(len(made(lines=(("not", A),), outs=(line(0),))), 1)

    def test_outs(self):
        for outs in ((), [num(0)], None, num(0), ("num",), (("not", A),), (("const", "a"),), (("copy", A),), (("look", "c"),),
                     (num(100),), (num(-100),), (num(True),), (("num", "1"),), (("num", 1, 1),), ([*A],), {}, 0, ("a",)):
            self.refuse(outs=outs)

    def test_a_const_in_a_line(self):
        const = ("const", "a")
        for one in (("not", const), ("sum", "", A, const), ("choice", ("same", const, A), A, A), ("copy", const)):
            self.refuse(lines=(one,))

    def test_an_operand_as_a_line(self):
        for one in (A, num(1), ("const", "a")):
            self.refuse(lines=(one,))
        self.refuse(lines=(("not", A), line(0)))

    def test_terms_within_terms(self):
        self.refuse(lines=(("not", ("not", A)),))
        self.refuse(lines=(("sum", "", A, ("froze", A)),))
        self.refuse(lines=(("choice", ("same", ("not", A), A), A, A),))

    def test_looks_at_what_is_no_input(self):
        for name in ("c", "sum", "", None, 1, ("a",), ["a"], {"a": 1}):
            self.refuse(lines=(("not", ("look", name)),))
        self.refuse(inputs=(), lines=(("not", A),))

    def test_lines_of_other_shapes(self):
        for one in ((), None, "not a", ["not", A], ("not",), ("not", A, A), ("and", A), ("and", "", A, A), ("sum", A, A),
                    ("sum", "su", A, A), ("sum", "x", A, A), ("sum", None, A, A), ("sum", ["u"], A, A), ("twice", A),
                    ("choice", ("unlike", A, A), A, A), ("choice", ["same", A, A], A, A), ("choice", A, A, A, A),
                    ("choice", ("same", A), A, A), ("if", A), ("neg", A), (["not"], A), (None, A), (True, A),
                    {"not": A}, ("not", list(A)), (("not", A),)):
            self.refuse(lines=(one,))
        for lines in (None, [], [("not", A)], ("not", A), {}, "", 0, True):
            self.refuse(lines=lines)

    def test_spoilt_in_one_place(self):
        chance = random.Random("spoilt")
        refused = 0
        for other in spoilt(FULL, chance, 200):
            # Another num, and no flags, may stand there.
            if isinstance(other, tuple) and len(other) == 4 and self.shape(other) != self.shape(FULL):
                with self.assertRaises(NoProgram, msg=other):
                    Program(*other[:3], width=other[3])
                refused += 1
        self.assertGreater(refused, 300)

    def shape(self, thing):
        return re.sub("'num', -?[0-9]+", "num", repr(thing)).replace("'sum', ''", "'sum', 'u'")

    def test_of_anything(self):
        for thing in odd_things():
            for fields in ({"inputs": thing}, {"lines": thing}, {"outs": thing}, {"lines": (thing,)}, {"outs": (thing,)},
                           {"inputs": (thing,)}, {"lines": (("not", thing),)}, {"lines": (("sum", thing, A, A),)},
                           {"lines": (("choice", thing, A, A),)}, {"lines": (("choice", ("same", A, thing), A, A),)},
                           {"outs": (("line", thing),)}, {"lines": (("not", A), ("not", ("line", thing)))},
                           {"lines": ((thing, A),)}, {"outs": ((thing, 0),)}):
                if thing in ((), ("look", "a"), 0, "") or fields == {"lines": (("not", A), ("not", ("line", 0)))}:
                    continue
                if thing in (("a",), ("look",)) and "inputs" in fields:
                    continue
                self.refuse(**fields)
            if not (isinstance(thing, int) and not isinstance(thing, bool) and 1 <= thing <= 4):
                self.refuse(width=thing)
            with self.assertRaises(NoProgram):
                Program(thing, thing, thing, width=thing)

    def test_deep_ones(self):
        for thing in (nested(39, lambda one: ("not", one), A), nested(38, lambda one: ("copy", one), A)):
            self.refuse(lines=(thing,))
            self.refuse(outs=(thing,))


class Shown(unittest.TestCase):
    def test_text(self):
        program = Program(*FULL[:3], width=FULL[3])
        self.assertEqual(str(program), "width 3\nin a b\nsum.u a -3\ncopy @0\nchoice same @1 b 0 @0\nfroze a\nout @2 a 7")
        self.assertEqual(repr(program), "Program('width 3\\nin a b\\nsum.u a -3\\ncopy @0\\nchoice same @1 b 0 @0\\n"
                                        "froze a\\nout @2 a 7')")

    def test_without_inputs_and_lines(self):
        self.assertEqual(str(Program((), (), (num(-99),), width=1)), "width 1\nin\nout -99")
        self.assertEqual(repr(Program((), (), (num(-99),), width=1)), "Program('width 1\\nin\\nout -99')")
        self.assertEqual(str(made(inputs=("a",), outs=(A, A))), "width 2\nin a\nout a a")

    def test_each_word_in_a_text(self):
        lines = {
            ("and", A, num(1)): "and a 1", ("less", "us", A, B): "less.us a b", ("twice", "", A): "twice a",
            ("twice", "s", num(0)): "twice.s 0", ("not", B): "not b", ("froze", num(-1)): "froze -1", ("copy", A): "copy a",
            ("copy", num(-7)): "copy -7", ("left", A, B): "left a b", ("quot", num(5), A): "quot 5 a",
            ("choice", ("under", A, num(1)), B, num(2)): "choice under a 1 b 2", ("sum", "", A, A): "sum a a",
        }
        for one, text in lines.items():
            self.assertEqual(str(made(lines=(one,))), f"width 2\nin a b\n{text}\nout 0")
        many = tuple(("not", line(at - 1) if at else A) for at in range(13))
        self.assertTrue(str(made(lines=many, outs=(line(12),))).endswith("not @10\nnot @11\nout @12"))


class Compared(unittest.TestCase):
    def test_how_many_lines(self):
        self.assertEqual(len(made()), 0)
        self.assertFalse(made())
        self.assertEqual(len(Program(*FULL[:3], width=FULL[3])), 4)
        self.assertTrue(made(lines=(("not", A),)))

    def test_equal_ones_have_equal_fields(self):
        program = Program(*FULL[:3], width=FULL[3])
        self.assertTrue(program == Program(*FULL[:3], width=3))
        self.assertFalse(program != Program(*FULL[:3], width=3))
        others = [Program(FULL[0], FULL[1], FULL[2], width=4), Program(("a", "b", "c"), FULL[1], FULL[2], width=3),
                  Program(FULL[0], FULL[1][:3], FULL[2], width=3), Program(FULL[0], FULL[1], FULL[2][:2], width=3),
                  Program(FULL[0], (*FULL[1][:3], ("froze", B)), FULL[2], width=3)]
        for other in others:
            self.assertFalse(program == other)
            self.assertFalse(other == program)
            self.assertTrue(program != other)
            self.assertTrue(other != program)

    def test_other_kinds(self):
        program = made()
        rule = Rule("f", ("not", A), A)
        for other in (None, 0, 2, "", str(program), (), program.lines, (program.inputs, (), program.outs, 2), [], {}, rule):
            self.assertFalse(program == other)
            self.assertFalse(other == program)
            self.assertTrue(program != other)
            self.assertTrue(other != program)

    def test_lines_of_copies_are_not_what_they_copy(self):
        self.assertNotEqual(made(lines=(("copy", A),)), made(lines=(("froze", A),)))
        self.assertNotEqual(made(outs=(num(1),)), made(outs=(num(3),)))


class Calls(unittest.TestCase):
    def test_by_places_and_names(self):
        self.assertEqual(str(inspect.signature(Program)), "(inputs, lines, outs, *, width=2)")
        self.assertEqual(Program.__module__, programs.__name__)
        program = Program(width=3, outs=FULL[2], lines=FULL[1], inputs=FULL[0])
        self.assertEqual(program, Program(*FULL[:3], width=3))
        with self.assertRaises(TypeError):
            Program(*FULL)
        for name in ("__init__", "__len__", "__eq__", "__str__", "__repr__"):
            self.assertIn(name, vars(Program))

    def test_what_is_handed_in_stays(self):
        for thing in odd_things():
            assert_keeps(self, lambda one: Program(one, one, one), thing)
            assert_keeps(self, lambda one: Program(("a",), (one,), (A,)), thing)
        ahead = repr(FULL)
        Program(*FULL[:3], width=3)
        self.assertEqual(repr(FULL), ahead)
