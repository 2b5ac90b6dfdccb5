"""A Desk: a Bench that is told rows of words."""

from poisonrules.benches import Bench
from poisonrules.errors import NoText
from poisonrules.judging import judged
from poisonrules.kinds import ANY, BAD, FAULT
from poisonrules.progtexts import read_program
from poisonrules.ruletexts import read_rule

DONE = "ok"
LINE_END = " ; "


class Desk:
    """A Bench by rows."""

    def __init__(self):
        self.bench = Bench()

    def say(self, text):
        """What is told to the row text; NoText of anything that is no row, else as the Bench refuses."""
        if not isinstance(text, str):
            raise NoText("what is no text is no row")
        words = text.split(" ")
        if words[0] not in ROWS:
            raise NoText("no row begins so")
        action = ROWS[words[0]]
        return action(self.bench, words)


def behind_first(words, many):
    """The words behind the first one; NoText where they are not so many."""
    if len(words) != 1 + many:
        raise NoText("a row has as many words as its first one takes")
    return words[1:]


def read_figures(word):
    """The number that word writes by figures."""
    if not (word.isascii() and word.isdigit()) or word[0] == "0" and word != "0":
        raise NoText("a word is no number")
    return int(word)


def said_rule(bench, words):
    """Put a rule."""
    bench.put(read_rule(" ".join(words)))
    return DONE


def said_deed(bench, words):
    """Do a deed that takes a name alone."""
    name = behind_first(words, 1)[0]
    bench.do(words[0], name)
    return DONE


def said_lay(bench, words):
    """Lay a program."""
    text = " ".join(words[2:])
    if "\n" in text:
        raise NoText("a row has no line ends but in names")
    program = read_program(text.replace(LINE_END, "\n"))
    bench.lay(words[1], program)
    return DONE


def said_step(bench, words):
    """Step a program."""
    name, rule, line = behind_first(words, 3)
    bench.step(name, rule, read_figures(line))
    return DONE


def said_back(bench, words):
    """Go back."""
    many = behind_first(words, 1)[0]
    bench.back(read_figures(many))
    return DONE


def said_show(bench, words):
    """A program's text in a row."""
    name = behind_first(words, 1)[0]
    return str(bench.program(name)).replace("\n", LINE_END)


def said_worths(_, words):
    """Whether a rule is right at widths 1 and 2."""
    rule = read_rule(" ".join(words[1:]))
    for width in (1, 2):
        told = judged(rule, width=width)
        if told is not None:
            worths, outcome = told
            return " ".join(["wrong", str(width), *[shown_worth(worth) for worth in worths], shown_worth(outcome)])
    return "right"


def shown_worth(worth):
    """A worth or outcome as a word."""
    if worth == ANY:
        return "any"
    if worth == BAD:
        return "bad"
    return "fault" if worth == FAULT else str(worth)


def said_rules(bench, words):
    """The names of all rules."""
    behind_first(words, 0)
    return " ".join([name for name, _ in bench.rules()]) if len(bench) > 0 else "none"


ROWS = {
    "rule": said_rule, "out": said_deed, "lay": said_lay, "step": said_step, "freeze": said_deed, "merge": said_deed,
    "bare": said_deed, "back": said_back, "show": said_show, "worths": said_worths, "rules": said_rules,
}
