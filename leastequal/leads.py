"""Leads from the loops of one function to those of another one, and the rules that they bring."""

from leastequal.checks import is_list
from leastequal.errors import BadLead, Impossible, Misfit, NoFunction
from leastequal.forms import kind_of, many_parts, spellings_in, term_of
from leastequal.papers import Denial, Paper
from leastequal.program import MOST_NAMES, check_program
from leastequal.rules import Rule, has_calls, judged
from leastequal.spellings import DIGITS, LETTERS, is_name
from leastequal.terms import put_in

MOST_SIGNS = 12
MOST_SIZE = 20


class Led(Paper):
    """A lead holds: for each parameter of its other function a Taken."""

    def __init__(self, papers):
        Paper.__init__(self, "led", papers)
        self.papers = self.parts[0]


class NotLed(Denial):
    """A lead does not hold: the number of a parameter, and what is judged of its sides."""

    def __init__(self, index, paper):
        Denial.__init__(self, "notled", index, paper)
        self.index = self.parts[0]
        self.paper = self.parts[1]


class Lead:
    """A lead: a name, the names of two functions, and a term for each parameter of the other one."""

    def __init__(self, name, one, other, terms):
        if not _is_lead_name(name):
            raise BadLead("name")
        if not is_name(one):
            raise BadLead("one")
        if not is_name(other):
            raise BadLead("other")
        made = _terms_of(terms)
        if made is None:
            raise BadLead("terms")
        self.name = name
        self.one = one
        self.other = other
        self.terms = made

    def __eq__(self, other):
        if not isinstance(other, Lead) or self.name != other.name or self.one != other.one:
            return False
        return self.other == other.other and self.terms == other.terms


def _is_lead_name(value):
    if not isinstance(value, str) or not 1 <= len(value) <= MOST_SIGNS:
        return False
    return all([sign in LETTERS or sign in DIGITS for sign in value])


def _terms_of(value):
    """The terms of a lead that any value is; None for any other value."""
    if not is_list(value) or not 1 <= len(value) <= MOST_NAMES:
        return None
    made = [term_of(one) for one in value]
    return None if None in made or not all([_is_for_leads(term) for term in made]) else tuple(made)


def _is_for_leads(term):
    if kind_of(term) != "word" or many_parts(term) > MOST_SIZE:
        return False
    return not spellings_in(term, "flag") and not has_calls(term)


def sides_of(program, lead):
    """The pairs of what a lead makes before a round and behind it, for each parameter of its other function."""
    check_program(program)
    if not isinstance(lead, Lead):
        raise BadLead("lead")
    by_name = {function.name: function for function in program.functions}
    for name in (lead.one, lead.other):
        if name not in by_name:
            raise NoFunction(name)
    one, other = by_name[lead.one], by_name[lead.other]
    for function, part in ((one, "one"), (other, "other")):
        if len(function.results) != len(function.parameters):
            raise Misfit(part)
    names = [name for term in lead.terms for name in spellings_in(term, "name")]
    if len(lead.terms) != len(other.parameters) or not all([name in one.parameters for name in names]):
        raise Misfit("terms")
    led_to = list(zip(other.parameters, lead.terms))
    behind = list(zip(one.parameters, one.results))
    sides = [(put_in(result, led_to), put_in(term, behind)) for result, term in zip(other.results, lead.terms)]
    return tuple(sides)


def led(program, lead):
    """The Led of a lead, or a NotLed of the first parameter whose sides are not judged equal."""
    papers = []
    for index, (before, behind) in enumerate(sides_of(program, lead)):
        paper = judged(before, behind, program.least)
        if not paper:
            return NotLed(index, paper)
        papers.append(paper)
    return Led(papers)


def lead_rules(program, lead):
    """The rules of a lead that holds."""
    paper = led(program, lead)
    if not paper:
        raise Impossible(paper)
    parameters = [function.parameters for function in program.functions if function.name == lead.one][0]
    count = ("name", _count_beside(parameters))
    state = [("name", parameter) for parameter in parameters]
    loops = [(name, (f"loop {lead.one} {index}", count, *state)) for index, name in enumerate(parameters)]
    names = [name for term in lead.terms for name in spellings_in(term, "name")]
    ways = 2 if all([name in names for name in parameters]) else 1
    rules = []
    for index, term in enumerate(lead.terms):
        if spellings_in(term, "name"):
            right = (f"loop {lead.other} {index}", count, *lead.terms)
            rules.append(Rule(f"lead {lead.name} {index}", put_in(term, loops), right, ways))
    return tuple(rules)


def _count_beside(parameters):
    """A name for the count that is none of these."""
    count = "count"
    tried = 0
    while count in parameters:
        tried += 1
        count = f"count{tried}"
    return count
