"""Parts of a term that are stored, so that fewer registers are enough."""

from leastequal.checks import are_integers, first_twice, is_list
from leastequal.cuts import Cuts
from leastequal.errors import Misfit
from leastequal.forms import checked_term
from leastequal.places import parts_on
from leastequal.plans import plans_with_cut, rows_by
from leastequal.registers import check_many

LEAST_REGISTERS = 3


def fewest_stores(term, many):
    """The least number of places of a cut of a term that fits so many registers."""
    return _cuts_of(term, many).fewest()


def cut_of(term, many):
    """A cut of a term that fits so many registers with the least number of places."""
    return _cuts_of(term, many).best_places()


def _cuts_of(term, many):
    whole = checked_term(term, "term")
    check_many(many, LEAST_REGISTERS)
    return Cuts(whole, many)


def rows_with_cut(term, many, cut):
    """Plain rows that make a term with so many registers, with one store for each place of a cut."""
    whole = checked_term(term, "term")
    check_many(many, LEAST_REGISTERS)
    if not is_cut(whole, cut):
        raise Misfit("cut")
    plans = plans_with_cut(whole, cut)
    if max([plan[0] for plan in plans]) > many:
        raise Misfit("registers")
    rows = []
    for cell, plan in enumerate(plans[:-1]):
        rows.extend([*rows_by(plan), ("store", cell, 0)])
    return (*rows, *rows_by(plans[-1]))


def is_cut(term, cut):
    """Whether a value is a list of unlike places of parts of a term, not its own."""
    if not is_list(cut) or not all([are_integers(place, 0, None) and len(place) > 0 for place in cut]):
        return False
    return first_twice(cut) is None and all([parts_on(term, place) is not None for place in cut])


def rows_for(term, many):
    """Plain rows that make a term with so many registers, with as few stores as can be."""
    return rows_with_cut(term, many, cut_of(term, many))
