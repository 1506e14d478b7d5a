"""How many registers a term needs, and plain rows that make it with them."""

from leastequal.checks import is_within
from leastequal.errors import BadNumber, Misfit
from leastequal.forms import checked_term
from leastequal.plans import plan_of, rows_by
from leastequal.traces import Trace

MOST_REGISTERS = 16


def need_of(term):
    """The need of registers of a term."""
    return plan_of(checked_term(term, "term"))[0]


def rows_of(term, many):
    """Plain rows without cells that make a term with so many registers."""
    plan = plan_of(checked_term(term, "term"))
    check_many(many, 1)
    if plan[0] > many:
        raise Misfit("registers")
    return tuple(rows_by(plan))


def check_many(many, least):
    """Raises BadNumber for what is no number of registers from a least one on."""
    if not is_within(many, least, MOST_REGISTERS):
        raise BadNumber("many")


def makes(term, many, rows):
    """Whether a value is plain rows that make a term with so many registers."""
    whole = checked_term(term, "term")
    check_many(many, 1)
    trace = Trace(many)
    return trace.has_done(rows) and trace.holds_term(0, whole)
