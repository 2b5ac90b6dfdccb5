"""Findings: what may be found out about rules and programs, and whether it is so."""

from poisonrules.bounds import is_program_bounded, is_rule_bounded, is_serial_rule_bounded, many_worths
from poisonrules.errors import NoText
from poisonrules.judgechecks import judge_holds
from poisonrules.programs import WIDEST
from poisonrules.progtexts import read_program
from poisonrules.proofchecks import against_holds, paper_holds
from poisonrules.refining import refined_holds
from poisonrules.ruletexts import read_rule
from poisonrules.weakchecks import weakest_holds
from poisonrules.wholes import is_whole

MOST_WORTHS = 2000


def finding_holds(thing):
    """Whether thing is a finding that holds."""
    if not isinstance(thing, tuple) or len(thing) == 0:
        return False
    word, *things = thing
    if not isinstance(word, str) or word not in FINDINGS or len(things) != TOLD_COUNTS[word]:
        return False
    action = FINDINGS[word]
    return action(*things)


def bounded_rule(text):
    """The rule of a text, or None where there is none or it is too great."""
    try:
        rule = read_rule(text)
    except NoText:
        return None
    return rule if is_rule_bounded(rule) else None


def bounded_serial_rule(text):
    """As bounded_rule, but of a serial rule, within the bounds of these."""
    rule = bounded_rule(text)
    return rule if rule is not None and is_serial_rule_bounded(rule) else None


def bounded_program(text):
    """The program of a text, or None where there is none or it is too great."""
    try:
        program = read_program(text)
    except NoText:
        return None
    return program if is_program_bounded(program) else None


def words_hold(text, width, thing):
    """Whether thing is worths and outcome against a rule at a width."""
    rule = bounded_rule(text)
    if rule is None or not is_whole(width) or not 1 <= width <= WIDEST:
        return False
    return many_worths(rule, width) <= MOST_WORTHS and judge_holds(rule, thing, width=width)


def every_holds(text, paper):
    """Whether paper is one of a rule."""
    rule = bounded_serial_rule(text)
    return rule is not None and paper_holds(rule, paper)


def against_rule_holds(text, paper):
    """Whether paper is one against a rule."""
    rule = bounded_serial_rule(text)
    return rule is not None and against_holds(rule, paper)


def weakest_machine_holds(text, machine, paper):
    """Whether machine is the weakest of a rule, as paper shows."""
    rule = bounded_serial_rule(text)
    return rule is not None and weakest_holds(rule, machine, paper)


def worse_holds(text, other_text, thing):
    """Whether thing is worths and outcome by which a program does not let another one's."""
    program = bounded_program(text)
    other = bounded_program(other_text)
    if program is None or other is None or len(program.outs) != len(other.outs):
        return False
    if program.inputs != other.inputs or program.width != other.width:
        return False
    return refined_holds(program, other, thing)


FINDINGS = {
    "words": words_hold, "every": every_holds, "against": against_rule_holds, "weakest": weakest_machine_holds,
    "worse": worse_holds,
}
TOLD_COUNTS = {"words": 3, "every": 2, "against": 2, "weakest": 3, "worse": 3}
