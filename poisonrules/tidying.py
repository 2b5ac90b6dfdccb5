"""Programs with their inputs frozen, with lines that are alike merged, with needless lines left out."""

from poisonrules.operands import moved, moved_line, with_parts
from poisonrules.programs import Program
from poisonrules.terms import parts_of


def frozen(program):
    """program with a froze of each input ahead, at which all looks at the input look."""
    many = len(program.inputs)
    looked = {("look", name): ("line", at) for at, name in enumerate(program.inputs)}
    looked.update({("line", at): ("line", at + many) for at in range(len(program.lines))})
    lines = [("froze", ("look", name)) for name in program.inputs]
    lines.extend([with_parts(line, [looked.get(operand, operand) for operand in parts_of(line)])
                  for line in program.lines])
    outs = [looked.get(out, out) for out in program.outs]
    return Program(program.inputs, tuple(lines), tuple(outs), width=program.width)


def merged(program):
    """program with a copy of the first line that is alike in the place of each line that has such a one ahead."""
    firsts = {}
    numbers = {}
    lines = []
    for number, line in enumerate(program.lines):
        first = firsts.setdefault(moved_line(line, numbers), number)
        numbers[number] = first
        lines.append(line if first == number else ("copy", ("line", first)))
    return Program(program.inputs, tuple(lines), program.outs, width=program.width)


def laid_bare(program):
    """program with those lines alone at which its outs look, by lines or straight."""
    needed = [False] * len(program.lines)
    waiting = list(program.outs)
    while waiting:
        head, word = waiting.pop()
        if head == "line" and not needed[word]:
            needed[word] = True
            waiting.extend(parts_of(program.lines[word]))
    numbers = {}
    lines = []
    for number, line in enumerate(program.lines):
        if needed[number]:
            numbers[number] = len(lines)
            lines.append(moved_line(line, numbers))
    outs = [moved(out, numbers) for out in program.outs]
    return Program(program.inputs, tuple(lines), tuple(outs), width=program.width)
