"""Programs of their texts (point 19)."""

import inspect
import random
import unittest

from poisonrules import progtexts
from poisonrules.errors import NoText
from poisonrules.programs import Program
from poisonrules.progtexts import read_program

from helper import A, B, assert_keeps, chance_program, odd_things

FULL = "width 3\nin a b\nsum.u a -3\ncopy @0\nchoice same @1 b 0 @0\nfroze a\nout @2 a 7"


class Reads(unittest.TestCase):
    def test_by_hand(self):
        told = read_program(FULL)
        self.assertIsInstance(told, Program)
        self.assertEqual((told.inputs, told.outs, told.width), (("a", "b"), (("line", 2), A, ("num", 7)), 3))
        self.assertEqual(told.lines, (
            ("sum", "u", A, ("num", -3)), ("copy", ("line", 0)),
            ("choice", ("same", ("line", 1), B), ("num", 0), ("line", 0)), ("froze", A)))

    def test_without_lines_or_inputs(self):
        self.assertEqual(read_program("width 1\nin\nout -99"), Program((), (), (("num", -99),), width=1))
        self.assertEqual(read_program("width 4\nin a\nout a a"), Program(("a",), (), (A, A), width=4))
        self.assertEqual(read_program("width 2\nin\nnot 0\nout @0"), Program((), (("not", ("num", 0)),), (("line", 0),)))

    def test_each_word(self):
        for line in ("and a b", "or a 1", "xor 1 1", "not a", "times a 0", "quot 0 a", "rest a b", "left a 1",
                     "right -99 a", "froze 99", "copy a", "copy -1", "sum a b", "sum.u a b", "sum.s a b", "sum.us a b",
                     "less a b", "less.us a b", "twice a", "twice.s a", "choice same a b a b", "choice below a b 0 1",
                     "choice under 0 0 0 a"):
            text = f"width 2\nin a b\n{line}\nout @0"
            self.assertEqual(str(read_program(text)), text)

    def test_widths(self):
        for width in (1, 2, 3, 4):
            self.assertEqual(read_program(f"width {width}\nin\nout 0").width, width)

    def test_each_text_reads_as_its_program(self):
        chance = random.Random("texts")
        for _ in range(400):
            inputs, lines, outs, width = chance_program(chance, most=40, most_lines=12)
            program = Program(inputs, lines, outs, width=width)
            self.assertEqual(read_program(str(program)), program)

    def test_a_long_one(self):
        text = "width 4\nin a\nnot a\n" + "".join(f"xor @{at} a\n" for at in range(150)) + "out @150 @99"
        self.assertEqual(str(read_program(text)), text)
        self.assertEqual(len(read_program(text)), 151)


class Refuses(unittest.TestCase):
    def refuse(self, *texts):
        for text in texts:
            with self.assertRaises(NoText, msg=text):
                read_program(text)

    def test_blanks_rows_and_line_ends(self):
        for at, sign in enumerate(FULL):
            if sign in " \n":
                self.refuse(FULL[:at] + sign + FULL[at:], FULL[:at] + FULL[at + 1:], FULL[:at] + " " + FULL[at:],
                            FULL[:at] + "\n" + FULL[at:], FULL[:at] + (" " if sign == "\n" else "\n") + FULL[at + 1:])
        self.refuse(FULL + "\n", "\n" + FULL, FULL + " ", " " + FULL, FULL.replace("\n", "\r\n"), FULL + "\r",
                    FULL.replace(" ", "\t"), FULL.replace("\n", " ; "), FULL.replace("\n", ";"))

    def test_rows_left_out_twice_exchanged(self):
        rows = FULL.split("\n")
        for at in range(len(rows)):
            # Without one of the last two lines it is another program.
            if at not in (4, 5):
                self.refuse("\n".join(rows[:at] + rows[at + 1:]))
            if at in (0, 1, len(rows) - 1):
                self.refuse("\n".join([*rows[:at], rows[at], *rows[at:]]))
        for at in range(len(rows) - 1):
            if at != 4:
                self.refuse("\n".join([*rows[:at], rows[at + 1], rows[at], *rows[at + 2:]]))
        # A line may stand twice.
        self.assertEqual(len(read_program("\n".join([*rows[:6], rows[5], rows[6]]))), 5)
        self.refuse("width 2\nin", "width 2\nout 0", "in\nout 0", "width 2", "in", "out 0", "")

    def test_great_letters(self):
        for at, sign in enumerate(FULL):
            if sign.isalpha():
                self.refuse(FULL[:at] + sign.upper() + FULL[at + 1:])

    def test_numbers(self):
        for word in ("07", "-0", "+1", "1.0", "100", "-100", "--1", "-", "00", "- 1", "1e1", "\u0661", "\u00b2", "0x1", "1_0"):
            self.refuse(f"width 2\nin a\nnot {word}\nout 0", f"width 2\nin a\nnot 0\nout {word}", f"width {word}\nin\nout 0")
        for word in ("@", "@-0", "@-1", "@+0", "@00", "@ 0", "@a", "0@", "@@0", "#a", "@1", "@2", "@10", "@0 ", "@\u0660",
                     "@" + "9" * 3900):
            self.refuse(f"width 2\nin a\nnot a\nnot {word}\nnot a\nout 0")
        for word in ("@3", "@-1", "@03", "@" + "9" * 3900, "9" * 3900, "-" + "9" * 3900):
            self.refuse(f"width 2\nin a\nnot a\nnot @0\nnot a\nout {word}", f"width {word}\nin\nout 0")

    def test_widths(self):
        for words in ("0", "5", "-1", "10", "", "2 2", "two", "@0", "a"):
            self.refuse(f"width {words}\nin\nout 0")
        self.refuse("width\nin\nout 0", "Width 2\nin\nout 0", "width2\nin\nout 0")

    def test_inputs(self):
        for words in ("b a", "a a", "sum", "copy", "abcdefghi", "a1", "@0", "1", "", " "):
            self.refuse(f"width 2\nin {words}\nout 0")
        self.refuse("width 2\nin a\nout b", "width 2\nin\nnot a\nout 0", "width 2\ninn\nout 0", "width 2\na\nout 0")

    def test_lines(self):
        for line in ("a", "0", "@0", "#c", "not #c", "copy #c", "not", "not a a", "copy", "copy a a", "copy not a", "not not a",
                     "sum a", "sum a a a", "sum. a a", "sum.su a a", "sum.uu a a", "and.u a a", "copy.u a", "choice a a a a",
                     "choice unlike a a a a", "choice same a a a", "choice same a a a a a", "choice", "choice same",
                     "froze.s a", "unlike a a", "same a a", "if a", "in a", "out a", "width 2", "look a", "num 1", "line 0",
                     "const c", "", "not @1", "copy @1", "xor @1 @1", "neg a"):
            self.refuse(f"width 2\nin a\n{line}\nout 0", f"width 2\nin a\nnot a\nnot @0\nnot a\n{line}\nout 0 ")

    def test_lines_that_look_ahead(self):
        self.refuse("width 2\nin a\nnot @0\nout 0", "width 2\nin a\nnot a\nnot @2\nnot a\nout 0")
        self.assertEqual(len(read_program("width 2\nin a\nnot a\nnot @0\nnot a\nout 0")), 3)

    def test_outs(self):
        self.refuse("width 2\nin a\nout", "width 2\nin a\nout ", "width 2\nin a\nout not a", "width 2\nin a\nout #a",
                    "width 2\nin a\nout @0", "width 2\nin a\nout a  a", "width 2\nin a\nout a\nout a")

    def test_of_anything(self):
        for thing in [*odd_things(), b"width 2\nin\nout 0", [FULL], (FULL,), {FULL: FULL}, read_program(FULL)]:
            self.refuse(thing)

    def test_texts_changed_in_one_sign(self):
        chance = random.Random("signs")
        read = 0
        for _ in range(3000):
            at = chance.randrange(len(FULL) + 1)
            text = FULL[:at] + chance.choice(" \n@#.-09abuswn~") + FULL[at + chance.randrange(2):]
            try:
                told = read_program(text)
            except NoText:
                continue
            self.assertEqual(str(told), text)
            read += 1
        self.assertGreater(read, 100)


class Calls(unittest.TestCase):
    def test_by_places_and_names(self):
        self.assertEqual(str(inspect.signature(read_program)), "(text)")
        self.assertEqual(read_program.__module__, progtexts.__name__)
        self.assertEqual(read_program(text=FULL), read_program(FULL))
        self.assertIsNot(read_program(FULL), read_program(FULL))

    def test_what_is_handed_in_stays(self):
        for thing in [*odd_things(), FULL]:
            assert_keeps(self, read_program, thing)
