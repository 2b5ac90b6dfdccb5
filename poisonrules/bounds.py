"""The bounds within which rules and programs are asked."""

from poisonrules.operands import program_size
from poisonrules.serial import is_serial_rule
from poisonrules.terms import consts_of, inputs_of, parts_of, things_of

MOST_THINGS = 12
MOST_DEEP = 6
MOST_INPUTS = 3
MOST_CONSTS = 2
MOST_LEAVES = 3
MOST_TESTS = 3
MOST_SERIAL_INPUTS = 2
MOST_SERIAL_THINGS = 7
MOST_LINES = 12
MOST_OUTS = 3
MOST_PROGRAM = 12


def is_term_bounded(term):
    """Whether term has not too many things, and not too many within one another."""
    return len(things_of(term)) <= MOST_THINGS and depth_of(term) <= MOST_DEEP


def depth_of(term):
    """How many terms of term are within one another at most."""
    ready = []
    for thing in reversed(things_of(term)):
        depths = [ready.pop() for _ in parts_of(thing)]
        ready.append(1 + max(depths, default=0))
    return ready.pop()


def is_rule_bounded(rule):
    """Whether rule is no greater than a rule may be."""
    terms = [rule.old, rule.new]
    for test in rule.cond:
        terms.extend(test[1:])
    many_inputs = len(inputs_of(rule.old))
    many_consts = len(consts_of(rule.old))
    if many_inputs > MOST_INPUTS or many_consts > MOST_CONSTS or many_inputs + many_consts > MOST_LEAVES:
        return False
    return len(rule.cond) <= MOST_TESTS and all([is_term_bounded(term) for term in terms])


def is_serial_rule_bounded(rule):
    """Whether rule is serial, and no greater than what is asked at every width, if it is within all other bounds."""
    if not is_serial_rule(rule) or len(inputs_of(rule.old)) > MOST_SERIAL_INPUTS:
        return False
    return len(things_of(rule.old)) <= MOST_SERIAL_THINGS and len(things_of(rule.new)) <= MOST_SERIAL_THINGS


def many_worths(rule, width):
    """How many tuples of numbers of rule's constants and worths of its inputs there are at width."""
    many = 1
    for _ in consts_of(rule.old):
        many = many * (1 << width)
    for _ in inputs_of(rule.old):
        many = many * ((1 << width) + 2)
    return many


def is_program_bounded(program):
    """Whether program is no greater than what is asked of its outcomes."""
    if len(program.lines) > MOST_LINES or len(program.inputs) > MOST_INPUTS or len(program.outs) > MOST_OUTS:
        return False
    return program_size(program) <= MOST_PROGRAM
