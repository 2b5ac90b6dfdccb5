"""What deeds make of what a Bench keeps, and what of anything is a tuple of deeds."""

from poisonrules.errors import NoFit, NoName, Taken, Wrong
from poisonrules.fitting import stepped
from poisonrules.judging import judged
from poisonrules.programs import Program
from poisonrules.proving import decide
from poisonrules.rules import Rule
from poisonrules.serial import is_serial_rule
from poisonrules.terms import is_name
from poisonrules.tidying import frozen, laid_bare, merged

# The widths at which a rule that is not serial is judged; it fits at no greater ones.
JUDGED_WIDTHS = (1, 2)


class Kept:
    """What a Bench keeps by names: rules, each as (Rule, what shows it), and programs, each as (versions, story).

    It is never changed: each deed makes another one. The versions of a program are what it was at first, and then
    behind each part of its story.
    """

    def __init__(self, by_rule, by_program):
        self.by_rule = by_rule
        self.by_program = by_program


def found(kept, name):
    """What is kept by name; NoName of anything that is no such name."""
    if not isinstance(name, str) or name not in kept:
        raise NoName(name)
    return kept[name]


def copied_rule(rule):
    """A Rule like rule, which shares nothing with it."""
    return Rule(rule.name, rule.old, rule.new, cond=rule.cond)


def copied_program(program):
    """A Program like program, which shares nothing with it."""
    return Program(program.inputs, program.lines, program.outs, width=program.width)


def put_rule(kept, most, rule):
    """A rule more."""
    if rule.name in kept.by_rule:
        raise Taken(rule.name)
    shown = shown_by(rule, most)
    return Kept({**kept.by_rule, rule.name: (copied_rule(rule), shown)}, kept.by_program)


def shown_by(rule, most):
    """What shows that rule is right; Wrong where it is not."""
    if is_serial_rule(rule):
        kind, *paper = decide(rule, most=most)
        if kind == "wrong":
            raise Wrong(tuple(paper))
        return ("paper", paper[0])
    for width in JUDGED_WIDTHS:
        against = judged(rule, width=width)
        if against is not None:
            raise Wrong((width, *against))
    return ("words", JUDGED_WIDTHS[-1])


def take_out(kept, _, name):
    """A rule less, and what came of it in programs taken back."""
    found(kept.by_rule, name)
    by_rule = {one: told for one, told in kept.by_rule.items() if one != name}
    return Kept(by_rule, {one: ahead_of_rule(course, name) for one, course in kept.by_program.items()})


def ahead_of_rule(course, name):
    """What a program was ahead of the first step by a rule."""
    versions, story = course
    many = 0
    while many < len(story) and story[many][:2] != ("step", name):
        many += 1
    return (versions[:many + 1], story[:many])


def lay_program(kept, _, name, program):
    """A program more."""
    if not is_name(name):
        raise NoName(name)
    if name in kept.by_program:
        raise Taken(name)
    return Kept(kept.by_rule, {**kept.by_program, name: ((copied_program(program),), ())})


def step_program(kept, _, name, rule, line):
    """A program stepped by the rule of a name."""
    versions, _ = found(kept.by_program, name)
    stepping, shown = found(kept.by_rule, rule)
    if shown[0] == "words" and versions[-1].width > shown[1]:
        raise NoFit(line)
    return gone_on(kept, name, stepped(versions[-1], stepping, line), ("step", rule, line))


def freeze_program(kept, _, name):
    """A program frozen."""
    return gone_on(kept, name, frozen(version_of(kept, name)), ("freeze",))


def merge_program(kept, _, name):
    """A program merged."""
    return gone_on(kept, name, merged(version_of(kept, name)), ("merge",))


def bare_program(kept, _, name):
    """A program laid bare."""
    return gone_on(kept, name, laid_bare(version_of(kept, name)), ("bare",))


def version_of(kept, name):
    """A program as it is now."""
    return found(kept.by_program, name)[0][-1]


def gone_on(kept, name, program, deed):
    """A program as another one behind a deed."""
    versions, story = kept.by_program[name]
    return Kept(kept.by_rule, {**kept.by_program, name: ((*versions, program), (*story, deed))})


DEEDS = {
    "put": put_rule, "out": take_out, "lay": lay_program, "step": step_program, "freeze": freeze_program,
    "merge": merge_program, "bare": bare_program,
}
TAKEN_COUNTS = {"put": 1, "out": 1, "lay": 2, "step": 3, "freeze": 1, "merge": 1, "bare": 1}


def are_deeds(thing):
    """Whether thing is a tuple of deeds."""
    return isinstance(thing, tuple) and all([is_deed(one) for one in thing])


def is_deed(thing):
    """Whether thing is a tuple of a deed's word and what it takes."""
    if not isinstance(thing, tuple) or len(thing) == 0:
        return False
    word = thing[0]
    if not isinstance(word, str) or word not in DEEDS or len(thing) != 1 + TAKEN_COUNTS[word]:
        return False
    if word == "put":
        return isinstance(thing[1], Rule)
    return word != "lay" or isinstance(thing[2], Program)
