"""Shelves: the rules that are in force for a program."""

from leastequal.calls import call_rules
from leastequal.checks import first_twice, is_list, is_within
from leastequal.errors import BadBook, BadLead, BadNumber, Misfit, NoRule, Twice
from leastequal.forms import parts_as_ended
from leastequal.leads import Lead, lead_rules
from leastequal.program import check_program
from leastequal.rules import check_book
from leastequal.spellings import called

MOST_LEADS = 6


class Shelf:
    """The rules of a book, then the call rules of a program, then those of some leads."""

    def __init__(self, program, book, leads):
        check_program(program)
        check_book(book)
        check_leads(leads)
        twice = first_twice([lead.name for lead in leads])
        if twice is not None:
            raise Twice(twice)
        if book.least > program.least:
            raise Misfit("least")
        rules = [*book.rules, *call_rules(program)]
        for lead in leads:
            rules.extend(lead_rules(program, lead))
        self.program = program
        self.book = book
        self.leads = tuple(leads)
        self.rules = tuple(rules)

    def __eq__(self, other):
        if not isinstance(other, Shelf) or self.program != other.program or self.book != other.book:
            return False
        return self.leads == other.leads and self.rules == other.rules

    def rule(self, name):
        """The rule of this name."""
        for one in self.rules:
            if isinstance(name, str) and one.name == name:
                return one
        raise NoRule(name)

    def before(self, index):
        """The shelf with those of its rules that name no function from this number on."""
        if not is_within(index, 0, len(self.program.functions)):
            raise BadNumber("index")
        names = [function.name for function in self.program.functions[index:]]
        # The leads were judged already, so they are put in behind.
        shelf = Shelf(self.program, self.book, ())
        shelf.leads = self.leads
        shelf.rules = tuple([rule for rule in self.rules if not _names_any(rule, names)])
        return shelf


def _names_any(rule, names):
    """Whether a call or a loop of one of these functions stands in a rule."""
    calls = [called(part[0]) for side in (rule.left, rule.right) for part in parts_as_ended(side)]
    return any([call is not None and call[1] in names for call in calls])


def check_shelf(shelf):
    """Raises BadBook for what is no Shelf."""
    if not isinstance(shelf, Shelf):
        raise BadBook("shelf")


def check_leads(leads):
    """Raises BadLead for what is no list of Leads, few enough for a shelf."""
    if not is_list(leads) or len(leads) > MOST_LEADS or not all([isinstance(lead, Lead) for lead in leads]):
        raise BadLead("leads")
