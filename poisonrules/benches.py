"""A Bench: rules and programs by names, kept over calls."""

from poisonrules.deeds import DEEDS, Kept, are_deeds, copied_program, copied_rule, found
from poisonrules.errors import NoBack, NoDeed
from poisonrules.kinds import MOST
from poisonrules.wholes import is_whole


class Bench:
    """Rules that are right, and programs that are stepped by them."""

    def __init__(self, *, most=MOST):
        self.most = most
        # What is kept at first, then behind each deed that stands.
        self.states = [Kept({}, {})]
        self.logged = []

    def __len__(self):
        return len(self.states[-1].by_rule)

    def put(self, rule):
        """Keep a rule; Taken, Wrong, TooMany."""
        self.do("put", rule)

    def out(self, name):
        """Keep a rule no more, nor what came of it; NoName."""
        self.do("out", name)

    def lay(self, name, program):
        """Keep a program by a name; NoName, Taken."""
        self.do("lay", name, program)

    def step(self, name, rule, line):
        """Step a program by the rule of a name at a line; NoName, NoFit."""
        self.do("step", name, rule, line)

    def freeze(self, name):
        """Freeze a program; NoName."""
        self.do("freeze", name)

    def merge(self, name):
        """Merge a program; NoName."""
        self.do("merge", name)

    def bare(self, name):
        """Lay a program bare; NoName."""
        self.do("bare", name)

    def do(self, word, *things):
        """Do a deed."""
        self.states.append(self.behind(self.states[-1], word, things))

    def behind(self, kept, word, things):
        """What is kept behind a deed, of which both ends are logged."""
        self.logged.append("in " + word)
        try:
            action = DEEDS[word]
            return action(kept, self.most, *things)
        finally:
            self.logged.append("out " + word)

    def back(self, many):
        """Go back to behind the first so many deeds; NoBack."""
        self.logged.append("in back")
        try:
            if not is_whole(many) or not 0 <= many < len(self.states):
                raise NoBack(many)
            self.states = self.states[:many + 1]
        finally:
            self.logged.append("out back")

    def run(self, deeds):
        """Do all deeds of a tuple, or none where one is refused; NoDeed."""
        self.logged.append("in run")
        try:
            if not are_deeds(deeds):
                raise NoDeed("what is no tuple of deeds cannot be run")
            states = list(self.states)
            for word, *things in deeds:
                states.append(self.behind(states[-1], word, things))
            self.states = states
        finally:
            self.logged.append("out run")

    def rules(self, *, by=None):
        """(name, Rule) of all rules, rising by names, or by what by tells of each Rule, then by names."""
        rules = {name: copied_rule(rule) for name, (rule, _) in self.states[-1].by_rule.items()}
        ranks = [(0 if by is None else by(rules[name]), name) for name in rules]
        return tuple([(name, rules[name]) for _, name in sorted(ranks)])

    def shown(self, name):
        """What shows that a rule is right: ("paper", paper) or ("words", 2); NoName."""
        return found(self.states[-1].by_rule, name)[1]

    def programs(self):
        """The names of all programs, rising."""
        return tuple(sorted(list(self.states[-1].by_program)))

    def program(self, name):
        """A program as it is now; NoName."""
        return copied_program(found(self.states[-1].by_program, name)[0][-1])

    def story(self, name):
        """What was done to a program and stands; NoName."""
        return found(self.states[-1].by_program, name)[1]

    def deeds(self):
        """How many deeds stand."""
        return len(self.states) - 1

    def log(self):
        """Both ends of all calls of deeds, back and run."""
        return tuple(self.logged)
