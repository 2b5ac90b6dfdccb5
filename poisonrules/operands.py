"""The operands of a program: how often its lines are looked at, and lines with other operands."""

from poisonrules.terms import FLAGGED, parts_of


def times_looked(program):
    """For each line of program how often it is looked at, in lines and outs."""
    times = [0] * len(program.lines)
    for operand in operands_of(program):
        if operand[0] == "line":
            times[operand[1]] += 1
    return times


def operands_of(program):
    """All operands of program, each as often as it stands."""
    return [operand for line in program.lines for operand in parts_of(line)] + list(program.outs)


def program_size(program):
    """program's width times the sum of its inputs, looks at them and frozes."""
    looks = [operand for operand in operands_of(program) if operand[0] == "look"]
    frozes = [line for line in program.lines if line[0] == "froze"]
    return program.width * (len(program.inputs) + len(looks) + len(frozes))


def with_parts(line, parts):
    """A line, or a term, with other parts."""
    if line[0] == "choice":
        return ("choice", (line[1][0], *parts[:2]), *parts[2:])
    if line[0] in FLAGGED:
        return (line[0], line[1], *parts)
    return (line[0], *parts)


def moved(operand, numbers):
    """An operand where lines have other numbers, which are told by the old ones."""
    return ("line", numbers[operand[1]]) if operand[0] == "line" else operand


def moved_line(line, numbers):
    """A line where the lines ahead of it have other numbers."""
    return with_parts(line, [moved(operand, numbers) for operand in parts_of(line)])
