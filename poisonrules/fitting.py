"""Where a rule fits in a program, and what the program becomes there."""

from poisonrules.errors import NoFit
from poisonrules.operands import moved, moved_line, times_looked, with_parts
from poisonrules.programs import Program
from poisonrules.ruleworths import all_hold
from poisonrules.terms import FLAGGED, LEAVES, consts_of, parts_of
from poisonrules.wholes import is_whole


def fits(program, rule):
    """The lines of program at which rule fits, rising."""
    times = times_looked(program)
    return tuple([line for line in range(len(program.lines)) if fit_at(program, rule, line, times) is not None])


def stepped(program, rule, line):
    """program stepped by rule at a line; NoFit of anything else than a line at which it fits."""
    fit = None
    if is_whole(line) and 0 <= line < len(program.lines):
        fit = fit_at(program, rule, line, times_looked(program))
    if fit is None:
        raise NoFit(line)
    told, inner = fit
    lines = []
    numbers = {}
    for number, one in enumerate(program.lines):
        if number == line:
            lines.extend(lines_of(rule.new, {leaf: moved(told[leaf], numbers) for leaf in told}, len(lines)))
        elif number not in inner:
            lines.append(moved_line(one, numbers))
        numbers[number] = len(lines) - 1
    outs = [moved(out, numbers) for out in program.outs]
    return Program(program.inputs, tuple(lines), tuple(outs), width=program.width)


def fit_at(program, rule, line, times):
    """(what each look and const of rule's old is, the other lines of old) where rule fits at line, else None."""
    told = {}
    inner = []
    waiting = [(rule.old, line)]
    while waiting:
        term, number = waiting.pop()
        one = program.lines[number]
        if not has_same_head(one, term):
            return None
        for part, operand in zip(parts_of(term), parts_of(one)):
            if part[0] in LEAVES:
                if not is_leaf_met(part, operand, told):
                    return None
            elif operand[0] != "line" or times[operand[1]] != 1:
                return None
            else:
                inner.append(operand[1])
                waiting.append((part, operand[1]))
    return (told, inner) if are_tests_met(program, rule, told) else None


def has_same_head(line, term):
    """Whether a line has the first word, the flags and the comparison of a term."""
    if line[0] != term[0]:
        return False
    if line[0] == "choice":
        return line[1][0] == term[1][0]
    return line[0] not in FLAGGED or line[1] == term[1]


def is_leaf_met(leaf, operand, told):
    """Whether a look, const or num of old may be this operand, by what others were; what it is is kept in told."""
    if leaf[0] == "num":
        return operand == leaf
    if leaf[0] == "const" and operand[0] != "num":
        return False
    return told.setdefault(leaf, operand) == operand


def are_tests_met(program, rule, told):
    """Whether rule's tests hold by the nums that its consts are."""
    last = (1 << program.width) - 1
    return all_hold(rule, [told["const", name][1] & last for name in consts_of(rule.old)], program.width)


def lines_of(term, told, first):
    """The lines of a term, parts ahead of the whole, the first of them of this number."""
    if term[0] in LEAVES:
        return [("copy", told.get(term, term))]
    lines = []
    ready = []
    # A term waits twice: for its parts, and then behind them.
    waiting = [(term, False)]
    while waiting:
        one, has_parts = waiting.pop()
        parts = parts_of(one)
        if one[0] in LEAVES:
            ready.append(told.get(one, one))
        elif has_parts:
            operands = [ready.pop() for _ in parts][::-1]
            ready.append(("line", first + len(lines)))
            lines.append(with_parts(one, operands))
        else:
            waiting.append((one, True))
            waiting.extend([(part, False) for part in parts[::-1]])
    return lines
