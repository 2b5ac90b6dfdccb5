"""A Bench (points 3, 24 and 25)."""

import inspect
import random
import unittest

from poisonrules import benches
from poisonrules.benches import Bench
from poisonrules.errors import NoBack, NoDeed, NoFit, NoName, RuleError, Taken, TooMany, Wrong
from poisonrules.judging import judged
from poisonrules.programs import Program
from poisonrules.progtexts import read_program
from poisonrules.proofchecks import against_holds, paper_holds
from poisonrules.proving import decide
from poisonrules.rules import Rule
from poisonrules.ruletexts import read_rule
from poisonrules.terms import is_name
from poisonrules.tidying import frozen, laid_bare, merged

from helper import chance_program, odd_things, planted_program

ORDER = read_rule("rule order sum x y to sum y x")
TWICE = read_rule("rule double sum.u x x to twice x")
GONE = read_rule("rule gone sum x #c to x if same #c 0")
HALVED = read_rule("rule halved times x 2 to twice x")
WIDE = read_rule("rule wide rest x 4 to x if same 4 0")
LOST = read_rule("rule lost sum x 1 to x")
WORSE = read_rule("rule worse times x 2 to sum x 1")


def p(inputs, lines, outs, width=2):
    return read_program("\n".join([f"width {width}", f"in {inputs}".strip(), *lines, f"out {outs}"]))


PLAIN = p("a b", ["sum a b", "sum @0 @0", "sum a 0"], "@1 @2")


def told(bench):
    """All that a Bench tells, but the log."""
    return ([(name, str(rule), bench.shown(name)) for name, rule in bench.rules()], len(bench), bench.deeds(),
            [(name, str(bench.program(name)), bench.story(name)) for name in bench.programs()])


def filled(most=200):
    bench = Bench(most=most)
    bench.put(ORDER)
    bench.put(TWICE)
    bench.lay("p", PLAIN)
    return bench


class Case(unittest.TestCase):
    def refuse(self, bench, kind, call, *things, **fields):
        """A call is refused by kind with these fields, and nothing but both ends in the log stands."""
        ahead, log = told(bench), bench.log()
        with self.assertRaises(kind, msg=(call, things)) as caught:
            getattr(bench, call)(*things)
        self.assertIs(caught.exception.__class__, kind)
        for field, one in fields.items():
            self.assertEqual(repr(getattr(caught.exception, field)), repr(one))
        self.assertEqual(told(bench), ahead)
        if call in ("rules", "shown", "program", "story"):
            self.assertEqual(bench.log(), log)
        elif call != "run":
            self.assertEqual(bench.log(), (*log, f"in {call}", f"out {call}"))


class Puts(Case):
    def test_serial_rules(self):
        bench = Bench()
        self.assertIsNone(bench.put(ORDER))
        self.assertIsNone(bench.put(GONE))
        self.assertEqual(bench.rules(), (("gone", GONE), ("order", ORDER)))
        for rule in (ORDER, GONE):
            kind, paper = bench.shown(rule.name)
            self.assertEqual(kind, "paper")
            self.assertIs(paper_holds(rule, paper), True)
        self.assertEqual((len(bench), bench.deeds()), (2, 2))

    def test_rules_that_are_not_serial(self):
        bench = Bench()
        bench.put(HALVED)
        bench.put(WIDE)
        self.assertEqual(bench.shown("halved"), ("words", 2))
        self.assertEqual(bench.shown("wide"), ("words", 2))

    def test_wrong_ones(self):
        bench = Bench()
        self.refuse(bench, Wrong, "put", LOST, paper=decide(LOST)[1:])
        self.refuse(bench, Wrong, "put", WORSE, paper=(1, *judged(WORSE, width=1)))
        with self.assertRaises(Wrong) as caught:
            bench.put(LOST)
        self.assertIs(against_holds(LOST, caught.exception.paper), True)
        four = read_rule("rule four times x 4 to 2 if same 1 1")
        self.assertEqual((judged(four, width=1) is None, judged(four, width=2) is None), (True, False))
        self.refuse(bench, Wrong, "put", four, paper=(2, *judged(four, width=2)))
        self.assertEqual(bench.deeds(), 0)

    def test_wrong_at_no_width_but_three_and_not_serial(self):
        rule = read_rule("rule late times x 4 to and x 0")
        self.assertIsNone(judged(rule, width=1))
        self.assertIsNone(judged(rule, width=2))
        self.assertIsNotNone(judged(rule, width=3))
        bench = Bench()
        bench.put(rule)
        self.assertEqual(bench.shown("late"), ("words", 2))

    def test_too_many(self):
        for most in (0, 1):
            bench = Bench(most=most)
            self.refuse(bench, TooMany, "put", ORDER, most=most)
            bench.put(HALVED)
            self.assertEqual(len(bench), 1)
        self.refuse(Bench(most=0), TooMany, "put", LOST, most=0)
        self.assertIsNone(Bench(most=1).put(read_rule("rule least and x x to x")))
        great = read_rule("rule great sum sum x y sum x y to sum sum y x sum y x")
        self.refuse(Bench(), TooMany, "put", great, most=200)
        Bench(most=2000).put(great)

    def test_taken_goes_ahead(self):
        bench = filled()
        self.refuse(bench, Taken, "put", ORDER, name="order")
        self.refuse(bench, Taken, "put", Rule("order", LOST.old, LOST.new), name="order")
        self.refuse(bench, Taken, "put", Rule("order", WORSE.old, WORSE.new), name="order")
        great = read_rule("rule order sum sum x y sum x y to sum sum y x sum y x")
        self.refuse(bench, Taken, "put", great, name="order")

    def test_a_name_of_a_program_is_free(self):
        bench = filled()
        bench.put(Rule("p", ORDER.old, ORDER.new))
        bench.lay("order", PLAIN)
        self.assertEqual((len(bench), bench.programs()), (3, ("order", "p")))
        bench.step("order", "p", 0)
        bench.out("p")
        self.assertEqual(bench.programs(), ("order", "p"))
        self.assertEqual(bench.program("order"), PLAIN)


class Lays(Case):
    def test_programs(self):
        bench = Bench()
        self.assertIsNone(bench.lay("q", PLAIN))
        self.assertIsNone(bench.lay("p", p("", [], "1", 4)))
        self.assertEqual(bench.programs(), ("p", "q"))
        self.assertEqual(bench.program("q"), PLAIN)
        self.assertEqual((bench.story("q"), bench.deeds(), len(bench)), ((), 2, 0))
        self.assertFalse(bench)

    def test_taken(self):
        self.refuse(filled(), Taken, "lay", "p", p("", [], "1"), name="p")

    def test_what_is_no_name(self):
        bench = filled()
        for thing in [*odd_things(), "sum", "if", "P", "p q", "", "abcdefghi", "p\n", ("p",), ["p"]]:
            if not is_name(thing):
                self.refuse(bench, NoName, "lay", thing, PLAIN, name=thing)


class Steps(Case):
    def test_a_step(self):
        bench = filled()
        self.assertIsNone(bench.step("p", "order", 0))
        self.assertEqual(bench.program("p"), p("a b", ["sum b a", "sum @0 @0", "sum a 0"], "@1 @2"))
        bench.step("p", "order", 2)
        bench.put(GONE)
        bench.lay("q", PLAIN)
        bench.step("q", "gone", 2)
        self.assertEqual(bench.program("q"), p("a b", ["sum a b", "sum @0 @0", "copy a"], "@1 @2"))
        self.assertEqual(bench.story("p"), (("step", "order", 0), ("step", "order", 2)))
        self.assertEqual(bench.story("q"), (("step", "gone", 2),))
        self.assertEqual(bench.deeds(), 8)

    def test_freeze_merge_bare(self):
        bench = filled()
        self.assertIsNone(bench.freeze("p"))
        self.assertEqual(bench.program("p"), frozen(PLAIN))
        bench.freeze("p")
        self.assertIsNone(bench.merge("p"))
        self.assertEqual(bench.program("p"), merged(frozen(frozen(PLAIN))))
        self.assertIsNone(bench.bare("p"))
        self.assertEqual(bench.program("p"), laid_bare(merged(frozen(frozen(PLAIN)))))
        self.assertEqual(bench.story("p"), (("freeze",), ("freeze",), ("merge",), ("bare",)))

    def test_names_that_are_not_there(self):
        bench = filled()
        for thing in [*odd_things(), "q", "order", "P", "p ", "p\n", ("p",), ["p"], {"p": 1}, b"p"]:
            for call in ("freeze", "merge", "bare"):
                self.refuse(bench, NoName, call, thing, name=thing)
            self.refuse(bench, NoName, "step", thing, "order", 0, name=thing)
            self.refuse(bench, NoName, "step", thing, thing, thing, name=thing)
            if thing != "order":
                self.refuse(bench, NoName, "step", "p", thing, 0, name=thing)
                self.refuse(bench, NoName, "step", "p", thing, None, name=thing)
                self.refuse(bench, NoName, "out", thing, name=thing)
        self.refuse(bench, NoName, "step", "q", "none", 9, name="q")

    def test_lines_at_which_it_does_not_fit(self):
        bench = filled()
        for thing in [True, False, None, "0", (0,), [0], 3, -1, 10 ** 39, *odd_things()]:
            if thing not in (0, 1, 2) or isinstance(thing, bool):
                self.refuse(bench, NoFit, "step", "p", "order", thing, line=thing)
        self.refuse(bench, NoFit, "step", "p", "double", 0, line=0)

    def test_rules_that_are_not_serial_fit_at_widths_1_and_2_alone(self):
        bench = Bench()
        bench.put(HALVED)
        for width in (1, 2, 3, 4):
            bench.lay("abcd"[width - 1], p("a", ["times a 2"], "@0", width))
        bench.step("a", "halved", 0)
        bench.step("b", "halved", 0)
        self.assertEqual(bench.program("b"), p("a", ["twice a"], "@0"))
        self.refuse(bench, NoFit, "step", "c", "halved", 0, line=0)
        self.refuse(bench, NoFit, "step", "d", "halved", 0, line=0)
        self.refuse(bench, NoFit, "step", "d", "halved", 7, line=7)


class Outs(Case):
    def test_a_rule_that_nothing_was_stepped_by(self):
        bench = filled()
        bench.step("p", "order", 0)
        ahead = told(bench)
        self.assertIsNone(bench.out("double"))
        self.assertEqual(told(bench)[3], ahead[3])
        self.assertEqual((len(bench), bench.deeds()), (1, 5))
        self.refuse(bench, NoName, "out", "double", name="double")
        self.refuse(bench, NoName, "shown", "double", name="double")

    def test_a_rule_that_was_stepped_by_in_two_programs_with_deeds_behind(self):
        bench = filled()
        bench.put(GONE)
        for name in ("q", "x"):
            bench.lay(name, PLAIN)
        bench.step("p", "gone", 2)
        bench.step("p", "order", 0)
        bench.freeze("p")
        bench.step("p", "order", 2)
        bench.freeze("q")
        bench.step("q", "order", 2)
        bench.merge("q")
        bench.step("x", "gone", 2)
        bench.bare("x")
        ahead = bench.program("x"), bench.story("x")
        many = bench.deeds()
        bench.out("order")
        self.assertEqual(bench.program("p"), p("a b", ["sum a b", "sum @0 @0", "copy a"], "@1 @2"))
        self.assertEqual(bench.story("p"), (("step", "gone", 2),))
        self.assertEqual((bench.program("q"), bench.story("q")), (frozen(PLAIN), (("freeze",),)))
        self.assertEqual((bench.program("x"), bench.story("x")), ahead)
        self.assertEqual(bench.deeds(), many + 1)
        # Put again it has no part in what is left.
        bench.put(ORDER)
        bench.out("order")
        self.assertEqual((bench.program("q"), bench.story("q")), (frozen(PLAIN), (("freeze",),)))
        bench.out("gone")
        self.assertEqual((bench.program("p"), bench.story("p")), (PLAIN, ()))
        self.assertEqual(bench.rules(), (("double", TWICE),))

    def test_back_behind_an_out(self):
        bench = filled()
        bench.step("p", "order", 0)
        bench.freeze("p")
        ahead = told(bench)
        bench.out("order")
        bench.back(5)
        self.assertEqual(told(bench), ahead)
        bench.out("order")
        bench.lay("q", PLAIN)
        bench.back(6)
        self.assertEqual((bench.programs(), bench.story("p")), (("p",), ()))


class Backs(Case):
    def test_by_all_some_and_none(self):
        bench = filled()
        seen = [told(bench)]
        for call, *things in (("step", "p", "order", 0), ("freeze", "p"), ("out", "order"), ("lay", "q", PLAIN), ("merge", "q")):
            getattr(bench, call)(*things)
            seen.append(told(bench))
        self.assertIsNone(bench.back(8))
        self.assertEqual(told(bench), seen[-1])
        for many in (7, 6, 4, 3):
            bench.back(many)
            self.assertEqual(told(bench), seen[many - 3])
        self.refuse(bench, NoBack, "back", 4, many=4)
        bench.back(0)
        self.assertEqual(told(bench), told(Bench()))
        bench.back(0)
        self.refuse(bench, NoBack, "back", 1, many=1)

    def test_behind_a_back(self):
        bench = filled()
        bench.back(1)
        bench.lay("q", PLAIN)
        bench.step("q", "order", 1)
        self.assertEqual((bench.deeds(), bench.programs()), (3, ("q",)))
        bench.back(2)
        self.assertEqual((bench.program("q"), bench.story("q")), (PLAIN, ()))
        bench.back(1)
        self.assertEqual((bench.rules(), bench.programs()), ((("order", ORDER),), ()))

    def test_of_anything(self):
        bench = filled()
        for thing in [True, False, "1", "", None, -1, 4, (1,), [1], 10 ** 39, *odd_things()]:
            if thing not in (0, 1, 2, 3) or isinstance(thing, bool):
                self.refuse(bench, NoBack, "back", thing, many=thing)

    def test_a_run_counts_each_of_its_deeds(self):
        bench = Bench()
        bench.run((("put", ORDER), ("lay", "p", PLAIN), ("freeze", "p")))
        self.assertEqual(bench.deeds(), 3)
        bench.back(2)
        self.assertEqual((bench.program("p"), bench.deeds()), (PLAIN, 2))


class Runs(Case):
    DEEDS = (("put", GONE), ("step", "p", "order", 0), ("lay", "q", PLAIN), ("freeze", "q"), ("merge", "q"), ("bare", "p"),
             ("out", "double"))

    def test_of_none(self):
        bench = filled()
        ahead = told(bench)
        self.assertIsNone(bench.run(()))
        self.assertEqual(told(bench), ahead)
        self.assertEqual(bench.log()[-2:], ("in run", "out run"))

    def test_all_are_done(self):
        one, other = filled(), filled()
        self.assertIsNone(one.run(self.DEEDS))
        for word, *things in self.DEEDS:
            getattr(other, word)(*things)
        self.assertEqual(told(one), told(other))
        words = [f"{end} {deed[0]}" for deed in self.DEEDS for end in ("in", "out")]
        self.assertEqual(one.log()[6:], ("in run", *words, "out run"))
        self.assertEqual(other.log()[6:], tuple(words))

    def test_a_refused_deed_at_each_place(self):
        refused = [(("put", ORDER), Taken, {"name": "order"}), (("put", LOST), Wrong, {"paper": decide(LOST)[1:]}),
                   (("out", "none"), NoName, {"name": "none"}), (("lay", "p", PLAIN), Taken, {"name": "p"}),
                   (("lay", 5, PLAIN), NoName, {"name": 5}), (("step", "p", "order", True), NoFit, {"line": True}),
                   (("step", [], "order", 0), NoName, {"name": []}), (("freeze", "z"), NoName, {"name": "z"}),
                   (("merge", None), NoName, {"name": None}), (("bare", "order"), NoName, {"name": "order"})]
        for at in range(len(self.DEEDS) + 1):
            for deed, kind, fields in refused:
                bench = filled()
                log = bench.log()
                deeds = (*self.DEEDS[:at], deed, *self.DEEDS[at:])
                self.refuse(bench, kind, "run", deeds, **fields)
                words = [f"{end} {one[0]}" for one in deeds[:at + 1] for end in ("in", "out")]
                self.assertEqual(bench.log(), (*log, "in run", *words, "out run"))
                bench.run(self.DEEDS)
                self.assertEqual(bench.deeds(), 3 + len(self.DEEDS))

    def test_what_is_no_tuple_of_deeds(self):
        bench = filled()
        good = ("freeze", "p")
        for deed in (("back", 0), ("run", ()), ("log",), ("put",), ("put", ORDER, ORDER), ("put", PLAIN), ("put", "order"),
                     ("put", str(GONE)), ("lay", "q"), ("lay", "q", GONE), ("lay", PLAIN, "q"), ("lay", "q", str(PLAIN)),
                     ("lay", "q", PLAIN, 2), ("step", "p", "order"), ("step", "p", "order", 0, 0), ("step", "p"), ("freeze",),
                     ("freeze", "p", "p"), ("out",), ("merge",), ("bare", "p", None), (), "freeze p", ["freeze", "p"], None,
                     ("Freeze", "p"), ("",), (None, "p"), (["freeze"], "p"), ({}, "p"), (True,), "", 0, ORDER, PLAIN, good[:1]):
            for deeds in ((deed,), (good, deed), (deed, good), (good, deed, ("freeze", "none"))):
                log = bench.log()
                self.refuse(bench, NoDeed, "run", deeds)
                self.assertEqual(bench.log(), (*log, "in run", "out run"))
        for deeds in ([good], [], {}, None, "freeze", good, 0, True, {good: good}):
            self.refuse(bench, NoDeed, "run", deeds)

    def test_of_anything(self):
        bench = filled()
        for thing in odd_things():
            if thing != ():
                self.refuse(bench, NoDeed, "run", thing)
            self.refuse(bench, NoDeed, "run", (thing,))
            self.refuse(bench, NoDeed, "run", (("put", thing),))
            self.refuse(bench, NoDeed, "run", (("lay", "q", thing),))
            self.refuse(bench, NoDeed, "run", ((thing, "p"),))
            self.refuse(bench, NoName, "run", (("freeze", "p"), ("freeze", thing)), name=thing)

    def test_no_deed_goes_ahead_of_all(self):
        bench = filled()
        self.refuse(bench, NoDeed, "run", (("put", ORDER), ("freeze", "none"), ("back", 0)))
        self.refuse(bench, NoDeed, "run", (("put", LOST), ("lay", "p", GONE)))


class Tells(Case):
    def test_of_an_empty_one(self):
        bench = Bench()
        self.assertEqual((bench.rules(), bench.programs(), bench.deeds(), bench.log(), len(bench)), ((), (), 0, (), 0))
        self.assertIs(bool(bench), False)
        self.assertEqual(bench.rules(by=len), ())

    def test_rules_by_names_and_by_what_is_told(self):
        bench = Bench()
        for rule in (TWICE, GONE, ORDER, HALVED, Rule("a", GONE.old, GONE.new, cond=GONE.cond)):
            bench.put(rule)
        def names(by=None):
            return [name for name, _ in bench.rules(by=by)]
        self.assertEqual(names(), ["a", "double", "gone", "halved", "order"])
        self.assertEqual(names(len), ["a", "gone", "double", "halved", "order"])
        self.assertEqual(names(lambda rule: -len(rule)), ["order", "double", "halved", "a", "gone"])
        self.assertEqual(names(str), ["a", "double", "gone", "halved", "order"])
        self.assertEqual(names(lambda rule: rule.name[::-1]), ["a", "halved", "double", "gone", "order"])
        self.assertEqual(names(lambda rule: rule.old[0]), ["a", "double", "gone", "order", "halved"])
        self.assertEqual(names(lambda rule: 0), names())
        self.assertEqual(names(lambda rule: ""), names())
        self.assertEqual(names(lambda rule: 10 ** 39 if rule.name == "a" else -1), ["double", "gone", "halved", "order", "a"])
        self.assertEqual(dict(bench.rules(by=len)), dict(bench.rules()))
        self.assertTrue(all(isinstance(rule, Rule) for _, rule in bench.rules()))

    def test_names_that_are_not_there(self):
        bench = filled()
        for thing in [*odd_things(), "q", "", "p ", "Order", ["p"], ("order",), {"p": "p"}]:
            for call in ("shown", "program", "story"):
                self.refuse(bench, NoName, call, thing, name=thing)
        self.refuse(bench, NoName, "shown", "p", name="p")
        self.refuse(bench, NoName, "program", "order", name="order")
        self.refuse(bench, NoName, "story", "order", name="order")

    def test_the_log(self):
        bench = filled()
        self.assertEqual(bench.log(), ("in put", "out put", "in put", "out put", "in lay", "out lay"))
        bench.freeze("p")
        bench.back(0)
        for call, *things in (("put", LOST), ("out", 1), ("lay", 1, PLAIN), ("step", 1, 1, 1), ("back", "x"), ("run", 0),
                              ("bare", 0), ("merge", 0)):
            with self.assertRaises((RuleError, NoName)):
                getattr(bench, call)(*things)
        told_log = bench.log()
        self.assertEqual(told_log[6:], tuple(f"{end} {word}" for word in (
            "freeze", "back", "put", "out", "lay", "step", "back", "run", "bare", "merge") for end in ("in", "out")))
        bench.rules(), bench.programs(), bench.deeds(), len(bench), bench.log()
        self.assertEqual(bench.log(), told_log)

    def test_kinds(self):
        bench = filled()
        bench.step("p", "order", 0)
        for thing in (bench.rules(), bench.programs(), bench.log(), bench.story("p"), bench.shown("order")):
            self.assertIs(thing.__class__, tuple)
        self.assertIs(bench.deeds().__class__, int)


class Apart(Case):
    def test_what_was_handed_in_and_told_is_not_shared(self):
        bench = Bench()
        rule, program = read_rule(str(ORDER)), read_program(str(PLAIN))
        bench.put(rule)
        bench.lay("p", program)
        bench.lay("q", program)
        for one in (rule, bench.rules()[0][1], bench.rules(by=len)[0][1]):
            one.old = one.new = ("not", ("look", "x"))
            one.name = "other"
        for one in (program, bench.program("p")):
            one.lines, one.width = (), 4
        self.assertEqual(bench.rules(), (("order", ORDER),))
        self.assertEqual((bench.program("p"), bench.program("q")), (PLAIN, PLAIN))
        bench.step("p", "order", 0)
        self.assertEqual(bench.program("q"), PLAIN)

    def test_two_benches_that_are_told_by_turns(self):
        one, other = Bench(), Bench()
        for bench in (one, other):
            bench.put(ORDER)
        one.lay("p", PLAIN)
        self.assertEqual(other.programs(), ())
        other.lay("p", frozen(PLAIN))
        one.step("p", "order", 0)
        other.out("order")
        self.assertEqual((len(one), len(other)), (1, 0))
        self.assertEqual((one.story("p"), other.story("p")), ((("step", "order", 0),), ()))
        self.assertEqual(other.program("p"), frozen(PLAIN))
        one.back(1)
        self.assertEqual((one.programs(), other.programs()), ((), ("p",)))
        self.assertNotEqual(one.log(), other.log())

    def test_a_bench_tells_what_one_tells_that_was_led_by_the_deeds_that_stand(self):
        chance = random.Random("benches")
        rules = [ORDER, TWICE, GONE, HALVED, LOST, WORSE, WIDE, Rule("gone", ORDER.old, ORDER.new)]
        refused = 0
        for _ in range(60):
            bench, standing = Bench(), []
            for _ in range(40):
                deeds = tuple(self.chance_deed(chance, rules, bench) for _ in range(chance.choice((1, 1, 1, 3))))
                many = len(standing)
                try:
                    if chance.randrange(8) == 0:
                        many = chance.randrange(-1, len(standing) + 2)
                        bench.back(many)
                        standing = standing[:many]
                        continue
                    if len(deeds) > 1:
                        bench.run(deeds)
                    else:
                        getattr(bench, deeds[0][0])(*deeds[0][1:])
                    standing += deeds
                except (RuleError, NoName):
                    refused += 1
                self.assertEqual(bench.deeds(), len(standing))
            other = Bench()
            for word, *things in standing:
                getattr(other, word)(*things)
            self.assertEqual(told(bench), told(other))
        self.assertGreater(refused, 300)

    def chance_deed(self, chance, rules, bench):
        word = chance.choice(("put", "out", "lay", "lay", "step", "step", "step", "step", "freeze", "merge", "bare"))
        name, rule = chance.choice("pqx"), chance.choice(rules)
        if word in ("put", "out"):
            return (word, rule if word == "put" else chance.choice((rule.name, "none")))
        if word == "lay":
            fields = planted_program(chance, rule.old) or chance_program(chance)
            return (word, name, Program(*fields[:3], width=fields[3]))
        if word == "step":
            return (word, name, rule.name, chance.choice((0, 0, 1, 1, 2, 3, None)))
        return (word, name)


class Bounds(unittest.TestCase):
    def test_the_greatest_in_the_bounds(self):
        bench = Bench()
        names = "abcdefghijkl"
        for name in names:
            bench.put(Rule(name, ORDER.old, ORDER.new))
        for name in names[:6]:
            bench.lay(name, p("a b", ["sum a b", *[f"sum @{at} a" for at in range(11)]], "@11", 1))
        for at in range(22):
            bench.step(names[at % 6], names[at % 12], at % 12)
        self.assertEqual((len(bench), len(bench.programs()), bench.deeds()), (12, 6, 40))
        bench.out("a")
        self.assertEqual(bench.story("a"), ())
        for _ in range(100):
            bench.freeze("b")
        self.assertEqual(len(bench.program("b")), 12 + 200)


class Calls(unittest.TestCase):
    def test_by_places_and_names(self):
        self.assertEqual(str(inspect.signature(Bench)), "(*, most=200)")
        self.assertEqual(Bench.__module__, benches.__name__)
        for call, names in (("put", "(self, rule)"), ("out", "(self, name)"), ("lay", "(self, name, program)"),
                            ("step", "(self, name, rule, line)"), ("freeze", "(self, name)"), ("merge", "(self, name)"),
                            ("bare", "(self, name)"), ("back", "(self, many)"), ("run", "(self, deeds)"),
                            ("rules", "(self, *, by=None)"), ("shown", "(self, name)"), ("programs", "(self)"),
                            ("program", "(self, name)"), ("story", "(self, name)"), ("deeds", "(self)"), ("log", "(self)"),
                            ("__len__", "(self)")):
            self.assertEqual(str(inspect.signature(vars(Bench)[call])), names)
        bench = Bench(most=300)
        bench.put(rule=ORDER)
        bench.lay(program=PLAIN, name="p")
        bench.step(line=0, rule="order", name="p")
        for call in (bench.freeze, bench.merge, bench.bare):
            call(name="p")
        bench.run(deeds=(("freeze", "p"),))
        self.assertEqual(bench.story(name="p")[0], ("step", "order", 0))
        self.assertEqual((bench.shown(name="order")[0], len(bench.program(name="p").inputs)), ("paper", 2))
        bench.out(name="order")
        bench.back(many=1)
        self.assertEqual(bench.rules(by=None), (("order", ORDER),))

    def test_what_is_handed_in_stays(self):
        shown = [repr(one) for one in (ORDER, PLAIN, Runs.DEEDS)]
        bench = filled()
        bench.run(Runs.DEEDS)
        self.assertEqual([repr(one) for one in (ORDER, PLAIN, Runs.DEEDS)], shown)
