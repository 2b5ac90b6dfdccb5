"""Programs."""

from poisonrules.errors import NoProgram
from poisonrules.kinds import WIDTH
from poisonrules.terms import LEAVES, has_shape, is_leaf_word, is_name, parts_of
from poisonrules.termtexts import shown_head
from poisonrules.tuples import is_rising
from poisonrules.wholes import is_whole

WIDEST = 4


class Program:
    """Lines that are reckoned one after the other, and the operands at which it looks in the end."""

    def __init__(self, inputs, lines, outs, *, width=WIDTH):
        if not makes_program(inputs, lines, outs, width):
            raise NoProgram("these make no program")
        self.inputs = inputs
        self.lines = lines
        self.outs = outs
        self.width = width

    def __len__(self):
        return len(self.lines)

    def __eq__(self, other):
        return (isinstance(other, Program) and self.inputs == other.inputs and self.lines == other.lines
                and self.outs == other.outs and self.width == other.width)

    def __str__(self):
        return "\n".join(rows_of(self.inputs, self.lines, self.outs, self.width))

    def __repr__(self):
        return f"Program({str(self)!r})"


def makes_program(inputs, lines, outs, width):
    """Whether these make a program."""
    if not (is_whole(width) and 1 <= width <= WIDEST and are_inputs(inputs) and isinstance(lines, tuple)):
        return False
    if not all([is_line(line, inputs, number) for number, line in enumerate(lines)]):
        return False
    return isinstance(outs, tuple) and len(outs) > 0 and all([is_operand(out, inputs, len(lines)) for out in outs])


def are_inputs(thing):
    """Whether thing is a rising tuple of names."""
    return isinstance(thing, tuple) and all([is_name(one) for one in thing]) and is_rising(thing)


def is_line(thing, inputs, number):
    """Whether thing may stand as the line of this number."""
    if not isinstance(thing, tuple) or len(thing) == 0:
        return False
    if thing[0] == "copy":
        return len(thing) == 2 and is_operand(thing[1], inputs, number)
    return has_shape(thing) and thing[0] not in LEAVES and all([is_operand(one, inputs, number)
                                                                for one in parts_of(thing)])


def is_operand(thing, inputs, many_lines):
    """Whether thing looks at one of inputs, at one of the first so many lines, or is a num."""
    if not isinstance(thing, tuple) or len(thing) != 2:
        return False
    head, word = thing
    if head == "line":
        return is_whole(word) and 0 <= word < many_lines
    if head == "look":
        return word in inputs
    return head == "num" and is_leaf_word(head, word)


def rows_of(inputs, lines, outs, width):
    """The rows of the text of a program."""
    rows = [f"width {width}", " ".join(["in", *inputs])]
    # A copy has its word and operand as a thing of one part has them.
    rows.extend([" ".join([shown_head(line), *shown_operands(parts_of(line))]) for line in lines])
    return [*rows, " ".join(["out", *shown_operands(outs)])]


def shown_operands(operands):
    """Operands as they are written."""
    return [f"@{word}" if head == "line" else shown_head((head, word)) for head, word in operands]
