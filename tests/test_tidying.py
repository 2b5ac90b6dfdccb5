"""Programs frozen, merged, laid bare (points 3 and 23)."""

import inspect
import random
import unittest

from poisonrules import tidying
from poisonrules.programs import Program
from poisonrules.progtexts import read_program
from poisonrules.refining import refined
from poisonrules.tidying import frozen, laid_bare, merged

from helper import LINE_HEADS, chance_line, chance_program, program_size


def p(inputs, lines, outs, width=2):
    return read_program("\n".join([f"width {width}", f"in {inputs}".strip(), *lines, f"out {outs}"]))


def programs(seed, many, **fields):
    chance = random.Random(seed)
    found = []
    for _ in range(many):
        inputs, lines, outs, width = chance_program(chance, **fields)
        if lines and chance.randrange(2):
            # A line twice.
            lines = (*lines, lines[chance.randrange(len(lines))], chance_line(chance, inputs, len(lines) + 1, LINE_HEADS))
            outs = (*outs[:2], ("line", len(lines) - 1))
        found.append(Program(inputs, lines, outs, width=width))
    return found


class Case(unittest.TestCase):
    def check(self, call, ahead, told):
        shown = str(ahead)
        self.assertEqual(str(call(ahead)), str(told))
        self.assertEqual(str(ahead), shown)

    def hold(self, call, seed):
        """Each is let by the program."""
        some = 0
        for ahead in programs(seed, 300, most=8):
            told = call(ahead)
            if program_size(told.inputs, told.lines, told.outs, told.width) <= 14:
                self.assertIsNone(refined(ahead, told), str(ahead))
                some += 1
        self.assertGreater(some, 200)


class Frozen(Case):
    def test_by_hand(self):
        self.check(frozen, p("a b", ["sum.u a b", "copy @0", "choice same a @1 b 7"], "@2 a 7"),
                   p("a b", ["froze a", "froze b", "sum.u @0 @1", "copy @2", "choice same @0 @3 @1 7"], "@4 @0 7"))

    def test_inputs_that_nothing_looks_at(self):
        self.check(frozen, p("a b", [], "b"), p("a b", ["froze a", "froze b"], "@1"))
        self.check(frozen, p("a b", [], "5"), p("a b", ["froze a", "froze b"], "5"))

    def test_without_inputs(self):
        ahead = p("", ["sum 1 2", "froze @0"], "@1 3", 4)
        self.check(frozen, ahead, ahead)

    def test_again(self):
        self.check(lambda one: frozen(frozen(one)), p("a", ["not a"], "@0", 3),
                   p("a", ["froze a", "froze @0", "not @1"], "@2", 3))

    def test_each_is_let_by_the_program(self):
        self.hold(frozen, "frozen")

    def test_one_that_is_not_let_back(self):
        ahead = p("a", ["xor a a"], "@0")
        self.assertIsNotNone(refined(frozen(ahead), ahead))


class Merged(Case):
    def test_by_hand(self):
        self.check(merged, p("a", ["not a", "not a", "sum @0 @1"], "@2 @1"), p("a", ["not a", "copy @0", "sum @0 @1"], "@2 @1"))
        self.check(merged, p("a", ["not a", "froze a", "not a", "froze a", "not a"], "0"),
                   p("a", ["not a", "froze a", "copy @0", "copy @1", "copy @0"], "0"))

    def test_lines_alike_by_others_alone(self):
        self.check(merged, p("a", ["not a", "not a", "sum @0 1", "sum @1 1", "twice @3", "twice @2"], "@5"),
                   p("a", ["not a", "copy @0", "sum @0 1", "copy @2", "twice @3", "copy @4"], "@5"))

    def test_operands_stay_as_they_are(self):
        self.check(merged, p("a", ["not a", "not a", "sum @1 1", "sum @0 1"], "@3"),
                   p("a", ["not a", "copy @0", "sum @1 1", "copy @2"], "@3"))

    def test_copies(self):
        self.check(merged, p("a", ["copy a", "copy a", "copy @0", "copy @1"], "@3"),
                   p("a", ["copy a", "copy @0", "copy @0", "copy @2"], "@3"))
        self.check(merged, p("a", ["copy 5", "copy 5", "copy 1", "copy -3"], "@3"),
                   p("a", ["copy 5", "copy @0", "copy 1", "copy -3"], "@3"))

    def test_a_copy_is_not_alike_to_what_it_copies(self):
        ahead = p("a", ["not a", "copy @0", "sum @0 1", "sum @1 1"], "@3")
        self.check(merged, ahead, ahead)
        # As both were written: what becomes a copy is not alike to a copy.
        self.check(merged, p("a", ["not a", "not a", "copy @0", "sum @1 1", "sum @2 1"], "@4"),
                   p("a", ["not a", "copy @0", "copy @0", "sum @1 1", "sum @2 1"], "@4"))

    def test_nums_flags_comparisons_as_written(self):
        for lines in (["sum a 1", "sum a 5"], ["sum a 1", "sum.u a 1"], ["sum a b", "sum b a"], ["twice a", "twice.s a"],
                      ["choice below a b 1 2", "choice under a b 1 2"], ["not a", "froze a"], ["xor a a", "xor a b"]):
            ahead = p("a b", lines, "@0 @1")
            self.check(merged, ahead, ahead)

    def test_none(self):
        for ahead in (p("a", [], "a"), p("", [], "1"), p("a", ["not a"], "@0")):
            self.check(merged, ahead, ahead)

    def test_each_is_let_by_the_program(self):
        self.hold(merged, "merged")

    def test_against_a_plain_search(self):
        some = 0
        for ahead in programs("plain", 300, most=12):
            same, lines = {}, []
            for at, line in enumerate(ahead.lines):
                def known(thing):
                    if isinstance(thing, tuple):
                        return ("line", same[thing[1]]) if thing[0] == "line" else tuple(known(one) for one in thing)
                    return thing
                known_lines = [known(one) for one in ahead.lines[:at]]
                same[at] = known_lines.index(known(line)) if known(line) in known_lines else at
                lines.append(line if same[at] == at else ("copy", ("line", same[at])))
                some += same[at] != at
            self.assertEqual(merged(ahead).lines, tuple(lines), str(ahead))
            self.assertEqual(merged(ahead).outs, ahead.outs)
        self.assertGreater(some, 50)


class LaidBare(Case):
    def test_by_hand(self):
        self.check(laid_bare, p("a b", ["not a", "not b", "sum @0 a", "quot 1 b", "copy @2"], "@4 b"),
                   p("a b", ["not a", "sum @0 a", "copy @1"], "@2 b"))
        self.check(laid_bare, p("a", ["not a", "froze @0", "not @0", "twice @1"], "@1 @2"),
                   p("a", ["not a", "froze @0", "not @0"], "@1 @2"))

    def test_outs_that_look_at_no_line(self):
        self.check(laid_bare, p("a", ["not a", "quot 1 a"], "a 5"), p("a", [], "a 5"))
        self.check(laid_bare, p("a", [], "a"), p("a", [], "a"))

    def test_the_same_line_twice(self):
        self.check(laid_bare, p("a", ["not a", "not a", "choice same @1 @1 @1 0"], "@2 @2"),
                   p("a", ["not a", "choice same @0 @0 @0 0"], "@1 @1"))

    def test_each_is_let_by_the_program(self):
        self.hold(laid_bare, "bare")

    def test_all_that_is_left_is_needed(self):
        for ahead in programs("left", 200, most=12, most_lines=10):
            told = laid_bare(ahead)
            self.assertEqual(laid_bare(told), told)
            looked = {word for line in (*told.lines, ("", *told.outs)) for head, word in
                      [one for one in (*line, *(line[1] if line[0] == "choice" else ())) if isinstance(one, tuple)
                       and one[0] == "line"]}
            self.assertEqual(looked, set(range(len(told))), str(ahead))


class Calls(unittest.TestCase):
    def test_by_places_and_names(self):
        for call in (frozen, merged, laid_bare):
            self.assertEqual(str(inspect.signature(call)), "(program)")
            self.assertEqual(call.__module__, tidying.__name__)
            self.assertEqual(call(program=p("a", ["not a"], "@0")), call(p("a", ["not a"], "@0")))

    def test_the_same_again_and_what_is_handed_in_stays(self):
        asked = programs("again", 60)
        ahead = repr(asked)
        for call in (frozen, merged, laid_bare):
            first = [call(one) for one in asked]
            self.assertEqual([call(one) for one in reversed(asked)], first[::-1])
            self.assertEqual(repr(asked), ahead)
            self.assertTrue(all(told is not one for told, one in zip(first, asked)))
