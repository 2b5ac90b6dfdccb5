"""The refusals. All but NoName stand straight under RuleError, none under another one."""


class RuleError(ValueError):
    """Whatever is refused here, but a name that is not there."""


class NoText(RuleError):
    """What is handed in is not so written."""


class NoRule(RuleError):
    """What is handed in makes no rule."""


class NoProgram(RuleError):
    """What is handed in makes no program."""


class NoDeed(RuleError):
    """What is handed in is no tuple of deeds."""


class TooMany(RuleError):
    """More things came than the most that were allowed."""

    def __init__(self, most):
        super().__init__(f"more than {most!r} came")
        self.most = most


class Wrong(RuleError):
    """A rule is wrong, as the paper against it shows."""

    def __init__(self, paper):
        super().__init__(f"wrong by {paper!r}")
        self.paper = paper


class Taken(RuleError):
    """The name is another one's already."""

    def __init__(self, name):
        super().__init__(f"{name!r} is taken")
        self.name = name


class NoFit(RuleError):
    """The rule does not fit at the line."""

    def __init__(self, line):
        super().__init__(f"no fit at line {line!r}")
        self.line = line


class NoBack(RuleError):
    """There is no way back to so many deeds."""

    def __init__(self, many):
        super().__init__(f"no way back to {many!r} deeds")
        self.many = many


class NoName(KeyError):
    """Nothing is called so."""

    def __init__(self, name):
        super().__init__(f"nothing is called {name!r}")
        self.name = name
