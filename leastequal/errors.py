"""The errors of the package. Each one keeps what it was made with in attributes, by which it is compared."""


class EqualError(ValueError):
    """The base of all errors of the package."""

    def __eq__(self, other):
        return type(self) is type(other)


def _shown(value):
    """A value for a message: a string as Python writes it."""
    # Any value may be a field, so what could fail or be endless is not written out.
    return repr(value) if isinstance(value, str) else "a value that is no string"


class BadNumber(EqualError):
    """What is passed is no integer, or not within its bounds."""

    def __init__(self, part):
        EqualError.__init__(self, f"no such number: {_shown(part)}")
        self.part = part

    def __eq__(self, other):
        return isinstance(other, BadNumber) and self.part == other.part


class BadTerm(EqualError):
    """What is passed is no term, or none of the kind that is told."""

    def __init__(self, part):
        EqualError.__init__(self, f"no such term: {_shown(part)}")
        self.part = part

    def __eq__(self, other):
        return isinstance(other, BadTerm) and self.part == other.part


class BadInput(EqualError):
    """What is passed tells no words, truths or replies."""

    def __init__(self, part):
        EqualError.__init__(self, f"no such words or truths: {_shown(part)}")
        self.part = part

    def __eq__(self, other):
        return isinstance(other, BadInput) and self.part == other.part


class BadProgram(EqualError):
    """What is passed makes no program, or is none."""

    def __init__(self, part):
        EqualError.__init__(self, f"no program: {_shown(part)}")
        self.part = part

    def __eq__(self, other):
        return isinstance(other, BadProgram) and self.part == other.part


class BadRule(EqualError):
    """What is passed makes no rule, or is none."""

    def __init__(self, part):
        EqualError.__init__(self, f"no rule: {_shown(part)}")
        self.part = part

    def __eq__(self, other):
        return isinstance(other, BadRule) and self.part == other.part


class BadBook(EqualError):
    """What is passed makes no book or shelf, or is none."""

    def __init__(self, part):
        EqualError.__init__(self, f"no book: {_shown(part)}")
        self.part = part

    def __eq__(self, other):
        return isinstance(other, BadBook) and self.part == other.part


class BadLead(EqualError):
    """What is passed makes no lead, or is none."""

    def __init__(self, part):
        EqualError.__init__(self, f"no lead: {_shown(part)}")
        self.part = part

    def __eq__(self, other):
        return isinstance(other, BadLead) and self.part == other.part


class BadClasses(EqualError):
    """What is passed is no Classes."""

    def __init__(self, part):
        EqualError.__init__(self, f"no classes: {_shown(part)}")
        self.part = part

    def __eq__(self, other):
        return isinstance(other, BadClasses) and self.part == other.part


class BadCost(EqualError):
    """What is passed makes no cost, or is none."""

    def __init__(self, part):
        EqualError.__init__(self, f"no cost: {_shown(part)}")
        self.part = part

    def __eq__(self, other):
        return isinstance(other, BadCost) and self.part == other.part


class BadStep(EqualError):
    """What is passed is no step, or one that cannot be done."""

    def __init__(self, part):
        EqualError.__init__(self, f"no such step: {_shown(part)}")
        self.part = part

    def __eq__(self, other):
        return isinstance(other, BadStep) and self.part == other.part


class BadCode(EqualError):
    """What is passed makes no code, or is none."""

    def __init__(self, part):
        EqualError.__init__(self, f"no code: {_shown(part)}")
        self.part = part

    def __eq__(self, other):
        return isinstance(other, BadCode) and self.part == other.part


class Misfit(EqualError):
    """Each thing that is passed is right, but they do not fit together."""

    def __init__(self, part):
        EqualError.__init__(self, f"this does not fit: {_shown(part)}")
        self.part = part

    def __eq__(self, other):
        return isinstance(other, Misfit) and self.part == other.part


class Missing(EqualError):
    """A value that is none here. The classes below it are raised, never this one."""

    def __init__(self, value):
        EqualError.__init__(self, f"none here: {_shown(value)}")
        self.value = value

    def __eq__(self, other):
        return type(self) is type(other) and self.value == other.value


class NoName(Missing):
    """No name or flag of this spelling."""


class NoClass(Missing):
    """No class of this number."""


class NoFunction(Missing):
    """No function of this name."""


class NoRule(Missing):
    """No rule of this name."""


class Twice(EqualError):
    """What may stand once stands twice."""

    def __init__(self, value):
        EqualError.__init__(self, f"this stands twice: {_shown(value)}")
        self.value = value

    def __eq__(self, other):
        return isinstance(other, Twice) and self.value == other.value


class TooMany(EqualError):
    """There are more than the most of these."""

    def __init__(self, what, most):
        EqualError.__init__(self, f"too many: {_shown(what)}")
        self.what = what
        self.most = most

    def __eq__(self, other):
        return isinstance(other, TooMany) and self.what == other.what and self.most == other.most


class Impossible(EqualError):
    """It cannot be done, as a paper shows."""

    def __init__(self, paper):
        EqualError.__init__(self, "this cannot be done, as the paper shows")
        self.paper = paper

    def __eq__(self, other):
        return isinstance(other, Impossible) and self.paper == other.paper


class BadText(EqualError):
    """An item of a text cannot stand behind those ahead of it, or one is missing."""

    def __init__(self, line, item):
        EqualError.__init__(self, "an item of the text cannot stand, or is missing")
        self.line = line
        self.item = item

    def __eq__(self, other):
        return isinstance(other, BadText) and self.line == other.line and self.item == other.item
