"""Terms reckoned for many worths at once, block by block: a block has all worths with one and the same first one."""

from poisonrules.codes import Codes
from poisonrules.kinds import BAD
from poisonrules.terms import FLAGGED, parts_of, things_of


class Blocks:
    """A column of codes for each unlike thing, by slots; a column of one code stands for as many as there are rows.

    Names are looks and consts, in the order in which worths stand. What does not hang on the first one, where there
    are several, is reckoned but once; all else is a step that is done for each block.
    """

    def __init__(self, names, width):
        self.codes = Codes(width)
        self.columns = []
        self.changing = []
        self.slots = {}
        self.steps = []
        self.many_rows = 1
        # Without several names there is but one block, of which no step is done.
        self.outer = names[:-1][:1]
        self.inner = names[len(self.outer):]
        self.firsts = [0]
        for name in self.outer:
            self.firsts = self.codes_of(name)
            self.slots[name] = self.new_slot([], True)
        self.lay_rows()

    def lay_rows(self):
        """Give each inner name a column, so that the rows rise."""
        laid = []
        for name in self.inner[::-1]:
            codes = self.codes_of(name)
            laid.append((name, [code for code in codes for _ in range(self.many_rows)]))
            self.many_rows *= len(codes)
        for name, column in laid:
            self.slots[name] = self.new_slot(self.filled(column), False)

    def codes_of(self, name):
        """The codes of all worths of a look, or of all numbers of a const, rising."""
        numbers = list(range(self.codes.last + 1))
        return numbers if name[0] == "const" else [self.codes.bad, self.codes.every, *numbers]

    def new_slot(self, column, changing):
        """A slot that has this column, at first; changing where it is another one in each block."""
        self.columns.append(column)
        self.changing.append(changing)
        return len(self.columns) - 1

    def slot_of(self, term):
        """The slot of a term."""
        ready = []
        for thing in reversed(things_of(term)):
            head = thing[0]
            if head in ("look", "const"):
                ready.append(self.slots[thing])
            elif head == "num":
                ready.append(self.num_slot(thing))
            elif head == "choice":
                compared = self.slot_by(head, thing[1][0], [ready.pop(), ready.pop()])
                ready.append(self.slot_by("chosen", "", [compared, ready.pop(), ready.pop()]))
            else:
                parts = [ready.pop() for _ in parts_of(thing)]
                ready.append(self.slot_by(head, thing[1] if head in FLAGGED else "", parts))
        return ready.pop()

    def num_slot(self, num):
        """The slot of a num."""
        if num not in self.slots:
            self.slots[num] = self.new_slot([num[1] & self.codes.last], False)
        return self.slots[num]

    def slot_by(self, head, word, parts):
        """The slot of a thing by the slots of its parts, or of what a choice compares, or what it chooses by that."""
        key = (head, word, *parts)
        if key not in self.slots:
            changing = True in [self.changing[part] for part in parts]
            if changing:
                self.slots[key] = self.new_slot([], True)
                self.steps.append((self.slots[key], head, word, parts))
            else:
                self.slots[key] = self.new_slot(self.reckoned(head, word, parts), False)
        return self.slots[key]

    def reckoned(self, head, word, parts):
        """The column of a thing by the slots of its parts."""
        columns = [self.columns[part] for part in parts]
        if head == "chosen":
            many = max([len(column) for column in columns])
            compared, ones, others = [column if len(column) == many else column * many for column in columns]
            return self.codes.chosen(compared, ones, others)
        ones, others = columns[0], columns[-1]
        if len(ones) < len(others):
            ones = ones * len(others)
        elif len(others) < len(ones):
            others = others * len(ones)
        return self.codes.column(head, word, ones, others)

    def begin(self, at):
        """Turn to the block of the outer name's worth at a place."""
        for name in self.outer:
            self.columns[self.slots[name]] = [self.firsts[at]]

    def go_on(self, steps):
        """Do some of the steps."""
        for slot, head, word, parts in steps:
            self.columns[slot] = self.reckoned(head, word, parts)

    def filled(self, column):
        """A column with a code for each row."""
        return column * (self.many_rows // len(column))

    def worths(self, at, row):
        """The worths of a row of a block."""
        found = []
        for name in self.inner[::-1]:
            row, place = divmod(row, len(self.codes_of(name)))
            found.append(worth_at(name, place))
        found.extend([worth_at(name, at) for name in self.outer])
        return tuple(found[::-1])


def worth_at(name, place):
    """The worth of a look or number of a const at a place among all of them, rising."""
    return place if name[0] == "const" else place + BAD
