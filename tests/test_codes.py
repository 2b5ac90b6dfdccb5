"""Codes, by which judging reckons many rows at once, against what reckoning tells of each (points 8 and 11)."""

import itertools
import random
import unittest

from poisonrules.codes import COMPARED_BAD, COMPARED_FAULT, HELD, UNHELD, Codes
from poisonrules.reckoning import combined

from helper import BAD, FAULT, FLAGGED, ONE_PART, TWO_PARTS, compares

KINDS = [(head, flags) for head in (*ONE_PART, *TWO_PARTS) for flags in (("", "u", "s", "us") if head in FLAGGED else ("",))]


def code_of(codes, outcomes):
    """The code of outcomes that rise."""
    if len(outcomes) == 1 and outcomes[0] >= 0:
        return outcomes[0]
    many = codes.last + 1
    return -sum(1 << {BAD: many, FAULT: many + 1}.get(one, one) for one in outcomes)


def all_outcomes(width):
    """All outcomes that a part may have, each rising."""
    single = (FAULT, BAD, *range(2 ** width))
    return [some for many in range(1, len(single) + 1) for some in itertools.combinations(single, many)]


def thing_of(head, flags, many):
    part = ("num", 0)
    return (head, flags, *[part] * many) if head in FLAGGED else (head, *[part] * many)


class AgainstReckoning(unittest.TestCase):
    def check(self, width, rows):
        """rows has pairs of outcomes."""
        for head, flags in KINDS:
            codes = Codes(width)
            many = 1 if head in ONE_PART else 2
            columns = [[code_of(codes, row[at]) for row in rows] for at in (0, many - 1)]
            told = codes.column(head, flags, *columns)
            for row, code in zip(rows, told):
                came = combined(thing_of(head, flags, many), row[:many], width)
                self.assertEqual(code, code_of(codes, came), (head, flags, row))

    def test_all_outcomes_at_width_1(self):
        self.check(1, list(itertools.product(all_outcomes(1), repeat=2)))

    def test_outcomes_by_chance_at_widths_2_to_4(self):
        chance = random.Random("codes")
        for width in (2, 3, 4):
            single = [(BAD,), (FAULT,), tuple(range(2 ** width)), *[(one,) for one in range(2 ** width)]]
            rows = list(itertools.product(single, repeat=2))
            for _ in range(150):
                rows.append(tuple(tuple(sorted(chance.sample((FAULT, BAD, *range(2 ** width)), chance.randrange(1, 5))))
                                  for _ in range(2)))
            self.check(width, rows)

    def compared(self, r, width, ones, others):
        """What may be of two compared parts, by each pair of what they come to."""
        found = 0
        for one, other in itertools.product(ones, others):
            if FAULT in (one, other):
                found |= COMPARED_FAULT
            elif BAD in (one, other):
                found |= COMPARED_BAD
            else:
                found |= HELD if compares(r, one, other, width) else UNHELD
        return found

    def test_what_is_compared(self):
        chance = random.Random("compared")
        for width in (1, 2, 3):
            some = all_outcomes(1) if width == 1 else [
                tuple(sorted(chance.sample((FAULT, BAD, *range(2 ** width)), chance.randrange(1, 4)))) for _ in range(40)]
            rows = list(itertools.product(some, repeat=2))
            for r in ("same", "below", "under"):
                codes = Codes(width)
                columns = [[code_of(codes, row[at]) for row in rows] for at in (0, 1)]
                for row, told in zip(rows, codes.column("choice", r, *columns)):
                    self.assertEqual(told, self.compared(r, width, *row), (r, row))

    def choices(self, width, rows):
        part = ("num", 0)
        for r in ("same", "below", "under"):
            codes = Codes(width)
            # Something may come to FAULT where a quot or rest stands.
            codes.column("quot", "", [1], [0])
            columns = [[code_of(codes, row[at]) for row in rows] for at in range(4)]
            told = codes.chosen(codes.column("choice", r, *columns[:2]), *columns[2:])
            for row, code in zip(rows, told):
                came = combined(("choice", (r, part, part), part, part), row, width)
                self.assertEqual(code, code_of(codes, came), (r, row))

    def test_choices(self):
        self.choices(1, list(itertools.product(all_outcomes(1)[::2], all_outcomes(1)[1::2], all_outcomes(1), all_outcomes(1))))
        chance = random.Random("chosen")
        rows = [tuple(tuple(sorted(chance.sample((FAULT, BAD, 0, 1, 2, 3), chance.randrange(1, 5)))) for _ in range(4))
                for _ in range(2000)]
        self.choices(2, rows)

    def test_choices_without_faults(self):
        part = ("num", 0)
        some = [one for one in all_outcomes(1) if FAULT not in one]
        rows = list(itertools.product(some, repeat=4))
        for r in ("same", "below", "under"):
            codes = Codes(1)
            columns = [[code_of(codes, row[at]) for row in rows] for at in range(4)]
            told = codes.chosen(codes.column("choice", r, *columns[:2]), *columns[2:])
            for row, code in zip(rows, told):
                came = combined(("choice", (r, part, part), part, part), row, 1)
                self.assertEqual(code, code_of(codes, came), (r, row))

    def test_codes_and_masks(self):
        for width in (1, 2):
            codes = Codes(width)
            for some in all_outcomes(width):
                code = code_of(codes, some)
                self.assertEqual(codes.code(codes.mask(code)), code)
                self.assertEqual(code <= codes.fault, FAULT in some)
            self.assertEqual(code_of(codes, tuple(range(2 ** width))), codes.every)
            self.assertEqual(code_of(codes, (BAD,)), codes.bad)
