"""Programs of their texts."""

from poisonrules.errors import NoProgram, NoText
from poisonrules.programs import Program
from poisonrules.terms import PART_COUNTS
from poisonrules.termtexts import choice_head, head_of, is_figures, joined


def read_program(text):
    """The Program whose text is text; NoText of anything else."""
    if not isinstance(text, str):
        raise NoText("what is no text writes no program")
    rows = [row.split(" ") for row in text.split("\n")]
    if len(rows) < 3 or rows[0][0] != "width" or rows[1][0] != "in" or rows[-1][0] != "out":
        raise NoText("a program has a width, inputs and outs")
    # Whether a line looks ahead, and all else, Program tells.
    numbers = {f"@{number}": number for number in range(len(rows) - 3)}
    lines = [read_line(row, numbers) for row in rows[2:-1]]
    outs = [read_operand(word, numbers) for word in rows[-1][1:]]
    try:
        return Program(tuple(rows[1][1:]), tuple(lines), tuple(outs), width=read_width(rows[0][1:]))
    except NoProgram:
        raise NoText("the rows make no program") from None


def read_width(words):
    """The width that words write."""
    if len(words) != 1 or not is_figures(words[0]):
        raise NoText("a width is one number")
    return int(words[0])


def read_line(words, numbers):
    """The line that words write; numbers has those of the lines by how they are looked at."""
    if words[0] == "copy":
        head, behind, many = ("copy",), words[1:], 1
    elif words[0] == "choice":
        head, behind, many = choice_head(words[1:2]), words[2:], PART_COUNTS["choice"]
    else:
        head = head_of(words[0])
        behind, many = words[1:], PART_COUNTS[head[0]]
    if len(behind) != many:
        raise NoText("a line has as many operands as its word takes")
    return joined(head, [read_operand(word, numbers) for word in behind])


def read_operand(word, numbers):
    """The operand that word writes."""
    if word in numbers:
        return ("line", numbers[word])
    head = head_of(word)
    if head[0] not in ("look", "num"):
        raise NoText("a word is no operand")
    return head
