"""Machines of rules (point 16)."""

import inspect
import itertools
import random
import unittest

from poisonrules import machines
from poisonrules.machines import is_machine, least_machine, lets
from poisonrules.ruletexts import read_rule

from helper import assert_keeps, odd_things, plain_least, plain_lets, put_at, spoilt

NONE = read_rule("rule f not a to a")
ONE = read_rule("rule f sum a #c to a if below #c 3")
TWO = read_rule("rule f sum #d #c to #d")


def chance_machine(chance, many_nexts, most=9):
    """A machine by chance, some of its rooms perhaps alike or never come to."""
    many = chance.randrange(2, most)
    lively = chance.choice((0, 1, 3, 5))
    rooms = [(False, tuple(chance.randrange(1, many) for _ in range(many_nexts)))]
    rooms += [(chance.randrange(6) < lively, tuple(chance.randrange(1, many) for _ in range(many_nexts)))
              for _ in range(many - 1)]
    return tuple(rooms)


class IsMachine(unittest.TestCase):
    def check(self, told, rule, *things):
        for thing in things:
            self.assertIs(is_machine(rule, thing), told, (str(rule), thing))

    def test_machines(self):
        self.check(True, NONE, ((False, (1,)), (True, (1,))), ((False, (2,)), (False, (2,)), (True, (1,))))
        self.check(True, ONE, ((False, (1, 1)), (False, (1, 1))), ((False, (1, 2)), (True, (1, 2)), (False, (2, 2))))
        self.check(True, TWO, ((False, (1, 1, 1, 1)), (True, (1, 1, 1, 1))))

    def test_as_many_nexts_as_tuples_of_bits(self):
        for many in (0, 1, 2, 3, 4, 5, 8):
            machine = ((False, (1,) * many), (True, (1,) * many))
            self.check(many == 1, NONE, machine)
            self.check(many == 2, ONE, machine)
            self.check(many == 4, TWO, machine)
        self.check(False, ONE, ((False, (1, 1)), (True, (1,))), ((False, (1,)), (True, (1, 1))))

    def test_none_leads_to_room_0(self):
        self.check(False, ONE, ((False, (0, 1)), (True, (1, 1))), ((False, (1, 1)), (True, (1, 0))),
                   ((False, (1, 1)), (True, (1, 1)), (False, (2, 0))), ((False, (0, 0)),))
        self.check(False, NONE, ((False, (0,)),), ((False, ()),))

    def test_room_0_has_false(self):
        self.check(False, ONE, ((True, (1, 1)), (True, (1, 1))), ((True, (1, 1)), (False, (1, 1))))

    def test_rooms_that_are_not_there(self):
        self.check(False, ONE, ((False, (1, 2)), (True, (1, 1))), ((False, (1, -1)), (True, (1, 1))),
                   ((False, (1, 1)), (True, (10 ** 39, 1))), ((False, (1, 1)),))

    def test_truths_and_numbers_each_in_their_places(self):
        self.check(False, ONE, ((0, (1, 1)), (True, (1, 1))), ((False, (1, 1)), (1, (1, 1))),
                   ((False, (1, 1)), (0, (1, 1))), ((False, (True, 1)), (True, (1, 1))),
                   ((False, (1, 1)), (True, (1, True))), ((None, (1, 1)), (True, (1, 1))))

    def test_other_kinds(self):
        self.check(False, ONE, None, (), [], {}, 0, True, ((),), (None,), [(False, (1, 1)), (True, (1, 1))],
                   ([False, (1, 1)], (True, (1, 1))), ((False, [1, 1]), (True, (1, 1))),
                   ((False, (1, 1), None), (True, (1, 1))), ((False,), (True, (1, 1))),
                   (((1, 1), False), (True, (1, 1))), {0: (False, (1, 1)), 1: (True, (1, 1))})

    def test_spoilt_in_one_place(self):
        chance = random.Random("spoilt")
        for rule, machine in ((ONE, ((False, (1, 2)), (True, (1, 2)), (False, (2, 2)))), (NONE, ((False, (1,)), (True, (1,)))),
                              (TWO, ((False, (1, 1, 2, 1)), (True, (1, 2, 1, 1)), (False, (2, 2, 2, 1))))):
            self.check(True, rule, machine)
            for other in spoilt(machine, chance, 40):
                self.check(False, rule, other)

    def test_of_anything(self):
        for rule in (NONE, ONE, TWO):
            for thing in odd_things():
                self.check(False, rule, thing, (thing,), (thing, thing), ((False, thing), (True, thing)))
                if thing is not False:
                    self.check(False, rule, ((thing, (1, 1)), (True, (1, 1))), ((thing, (1,)), (True, (1,))))
                if thing is True or thing != 1:
                    self.check(False, rule, ((False, (thing, 1)), (True, (1, 1))), ((False, (thing,)), (True, (1,))))

    def test_great_ones(self):
        machine = tuple((at % 3 == 1, (min(at + 1, 4999),)) for at in range(5000))
        self.check(True, NONE, machine)
        self.check(False, NONE, put_at(machine, (4999,), (True, (5000,))), put_at(machine, (4000, 1), (0,)))


class Lets(unittest.TestCase):
    def test_by_hand(self):
        # Lets where the last bit that was read is 1.
        last = ((False, (1, 2)), (False, (1, 2)), (True, (1, 2)))
        self.assertEqual([lets(last, (number,)) for number in range(4)], [False, False, True, True])
        self.assertEqual([lets(last, (number,), width=1) for number in range(2)], [False, True])
        self.assertEqual([lets(last, (number,), width=3) for number in range(8)], [False] * 4 + [True] * 4)
        # Lets where the first bit is 1, at any width.
        first = ((False, (1, 2)), (False, (1, 1)), (True, (2, 2)))
        for width in (1, 2, 3, 4):
            self.assertEqual([lets(first, (number,), width=width) for number in range(2 ** width)],
                             [False, True] * 2 ** (width - 1))

    def test_the_bits_of_two_constants(self):
        # From room 0 on to the room of its own for each two bits, the first constant's ahead.
        machine = ((False, (1, 2, 3, 4)), (False, (1,) * 4), (True, (2,) * 4), (False, (3,) * 4), (True, (4,) * 4))
        self.assertEqual([lets(machine, numbers, width=1) for numbers in ((0, 0), (0, 1), (1, 0), (1, 1))],
                         [False, True, False, True])
        self.assertIs(lets(machine, (2, 1)), True)
        self.assertIs(lets(machine, (1, 2)), False)

    def test_without_constants_widths_alone_count(self):
        machine = ((False, (1,)), (True, (2,)), (False, (3,)), (True, (3,)))
        self.assertEqual([lets(machine, (), width=width) for width in (1, 2, 3, 4)], [True, False, True, True])

    def test_by_chance(self):
        chance = random.Random("lets")
        for at in range(150):
            many = at % 3
            machine = chance_machine(chance, 2 ** many)
            for width in (1, 2, 3) if many == 2 else (1, 2, 3, 4):
                for numbers in itertools.product(range(2 ** width), repeat=many):
                    self.assertIs(lets(machine, numbers, width=width), plain_lets(machine, numbers, width))


class LeastMachine(unittest.TestCase):
    def test_by_hand(self):
        always = ((False, (1,)), (True, (1,)))
        never = ((False, (1, 1)), (False, (1, 1)))
        self.assertEqual(least_machine(always), always)
        self.assertEqual(least_machine(never), never)
        self.assertEqual(least_machine(((False, (2,)), (False, (1,)), (True, (3,)), (True, (2,)))), always)

    def test_rooms_that_are_never_come_to(self):
        machine = ((False, (3, 3)), (True, (1, 2)), (False, (2, 2)), (True, (3, 3)), (False, (1, 3)))
        self.assertEqual(least_machine(machine), ((False, (1, 1)), (True, (1, 1))))

    def test_room_0_is_alike_to_none(self):
        # Room 1 does as room 0 does, yet is another one, as none leads to room 0.
        machine = ((False, (1, 2)), (False, (1, 2)), (True, (1, 2)))
        self.assertEqual(least_machine(machine), machine)

    def test_numbers_as_rooms_are_come_to(self):
        machine = ((False, (2, 1)), (True, (1, 2)), (False, (3, 3)), (True, (2, 3)))
        self.assertEqual(least_machine(machine), ((False, (1, 2)), (False, (3, 3)), (True, (2, 1)), (True, (1, 3))))

    def test_the_same_in_another_order(self):
        chance = random.Random("order")
        for _ in range(150):
            machine = chance_machine(chance, 2)
            order = list(range(1, len(machine)))
            chance.shuffle(order)
            order = [0, *order]
            other = tuple((machine[room][0], tuple(order.index(behind) for behind in machine[room][1]))
                          for room in order)
            self.assertEqual(least_machine(other), least_machine(machine))

    def test_by_chance(self):
        chance = random.Random("least")
        fewer = 0
        for at in range(400):
            many = at % 3
            machine = chance_machine(chance, 2 ** many, most=14)
            told = least_machine(machine)
            self.assertEqual(told, plain_least(machine), machine)
            self.assertEqual(least_machine(told), told)
            self.assertIs(is_machine((NONE, ONE, TWO)[many], told), True)
            fewer += len(told) < len(machine)
            for width in (1, 2, 3):
                for numbers in itertools.product(range(2 ** width), repeat=many):
                    self.assertIs(lets(told, numbers, width=width), lets(machine, numbers, width=width))
        self.assertGreater(fewer, 100)

    def test_great_ones(self):
        many = 4000
        chain = tuple((at == many - 1, (min(at + 1, many - 1),)) for at in range(many))
        self.assertEqual(least_machine(chain), chain)
        ring = ((False, (1,)), *((at % 4 == 2, (at % (many - 1) + 1,)) for at in range(1, many - 3)),
                *((at % 4 == 2, (at % (many - 4) + 1,)) for at in range(many - 3, many)))
        self.assertEqual(least_machine(ring), plain_least(ring))


class Calls(unittest.TestCase):
    def test_by_places_and_names(self):
        for call, told in ((is_machine, "(rule, thing)"), (lets, "(machine, numbers, *, width=2)"),
                           (least_machine, "(machine)")):
            self.assertEqual(str(inspect.signature(call)), told)
            self.assertEqual(call.__module__, machines.__name__)
        machine = ((False, (1, 2)), (False, (1, 2)), (True, (1, 2)))
        self.assertIs(is_machine(thing=machine, rule=ONE), True)
        self.assertIs(lets(numbers=(2,), width=2, machine=machine), True)
        self.assertEqual(least_machine(machine=machine), machine)
        with self.assertRaises(TypeError):
            lets(machine, (2,), 2)

    def test_what_is_handed_in_stays(self):
        for thing in odd_things():
            assert_keeps(self, lambda one: is_machine(ONE, one), thing)
        self.assertEqual(str(ONE), "rule f sum a #c to a if below #c 3")

    def test_the_same_again_behind_other_calls(self):
        chance = random.Random("again")
        asked = [chance_machine(chance, 2) for _ in range(30)]
        told = [(least_machine(one), lets(one, (2,)), is_machine(ONE, one)) for one in asked]
        again = [(least_machine(one), lets(one, (2,)), is_machine(ONE, one)) for one in reversed(asked)]
        self.assertEqual(again[::-1], told)
