"""Terms as texts."""

from poisonrules.errors import NoText
from poisonrules.terms import COMPARISONS, FLAGGED, FLAGS, PART_COUNTS, is_name, things_of

DEEPEST_READ = 100


def show_term(term):
    """The text of term."""
    return " ".join([shown_head(thing) for thing in things_of(term)])


def shown_head(thing):
    """What is written of thing ahead of its parts."""
    head = thing[0]
    if head == "look":
        return thing[1]
    if head == "const":
        return "#" + thing[1]
    if head == "num":
        return str(thing[1])
    if head == "choice":
        return "choice " + thing[1][0]
    if head in FLAGGED and thing[1] != "":
        return head + "." + thing[1]
    return head


def read_term(text):
    """The term whose text is text; NoText of anything else."""
    if not isinstance(text, str):
        raise NoText("what is no text writes no term")
    return term_of(text.split(" "))


def term_of(words):
    """The one term that words write."""
    terms = terms_of(words)
    if len(terms) != 1:
        raise NoText("the words write no term, or several")
    return terms[0]


def terms_of(words):
    """The terms that words write, one behind the other."""
    # From the right, as each word's parts are ready then: so no depth needs calls within calls.
    ready = []
    for head in reversed(heads_of(words)):
        many = PART_COUNTS[head[0]]
        if len(ready) < many:
            raise NoText("a part is left out")
        parts = [ready.pop() for _ in range(many)]
        deep = 1 + max([part[0] for part in parts], default=0)
        if deep > DEEPEST_READ:
            raise NoText("too many terms within one another")
        ready.append((deep, joined(head, [part[1] for part in parts])))
    return [one[1] for one in reversed(ready)]


def joined(head, parts):
    """The term of a head and its parts."""
    if head[0] == "choice":
        return ("choice", (head[1], parts[0], parts[1]), parts[2], parts[3])
    return (*head, *parts)


def heads_of(words):
    """What each word says of its term without its parts; a choice takes two words."""
    heads = []
    at = 0
    while at < len(words):
        if words[at] == "choice":
            heads.append(choice_head(words[at + 1:at + 2]))
            at += 2
        else:
            heads.append(head_of(words[at]))
            at += 1
    return heads


def choice_head(words):
    """The head of a choice that goes on with words."""
    if len(words) == 0 or words[0] not in COMPARISONS:
        raise NoText("a choice tells how it compares")
    return ("choice", words[0])


def head_of(word):
    """The head that word writes."""
    if is_name(word):
        return ("look", word)
    if word.startswith("#") and is_name(word[1:]):
        return ("const", word[1:])
    if is_figures(word):
        return ("num", int(word))
    first, dot, flags = word.partition(".")
    # A dot stands just where flags do.
    if first in FLAGGED and flags in FLAGS and (dot == "") == (flags == ""):
        return (first, flags)
    # What is left of these words has no flags: look, const and num, as words, are names.
    if word in PART_COUNTS:
        return (word,)
    raise NoText("a word is none of a term's")


def is_figures(word):
    """Whether word is a num's, just as it is written."""
    figures = word.removeprefix("-")
    # Only ASCII figures, as there are others that Python reads or calls so.
    if not (figures.isascii() and figures.isdigit() and len(figures) <= 2):
        return False
    return str(int(word)) == word
