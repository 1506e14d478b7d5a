"""Looking at chains, and at groups that show that no chain is possible."""

from leastequal.chains import Apart, Step, is_chain
from leastequal.classes import check_classes
from leastequal.forms import checked_term, term_of
from leastequal.interned import Interned
from leastequal.places import exchanged, parts_on
from leastequal.shelves import check_shelf
from leastequal.stepping import Stepping


def shows_chain(shelf, one, other, value):
    """Whether a value is a right Chain from one term to another."""
    check_shelf(shelf)
    ends = (checked_term(one, "one"), checked_term(other, "other"))
    if not is_chain(value):
        return False
    stepping = Stepping(shelf)
    links = [(term_of(link.one), term_of(link.other)) for link in value.links]
    if not all([_leads(stepping, links, pair, link.steps) for pair, link in zip(links, value.links)]):
        return False
    return links[-1] == ends


def _leads(stepping, links, ends, steps):
    """Whether steps and uses of links lead from one term to another."""
    term = ends[0]
    for step in steps:
        if isinstance(step, Step):
            term = stepping.made(term, step)[1]
        else:
            term = _used(term, links[step.link][::step.way], step.place)
        if term is None:
            return False
    return term == ends[1]


def _used(term, ends, place):
    """The term with one end of a link, which must stand at the place, exchanged for the other; None if it does not."""
    passed = parts_on(term, place)
    return exchanged(passed, place, ends[1]) if passed is not None and passed[-1] == ends[0] else None


def shows_apart(classes, one, other, value):
    """Whether a value is an Apart whose groups show that joins do not connect two terms."""
    check_classes(classes, "classes")
    ends = (checked_term(one, "one"), checked_term(other, "other"))
    interned = Interned()
    pairs = [(interned.number_of(join[0]), interned.number_of(join[1])) for join in classes.record]
    apart = [interned.number_of(term) for term in ends]
    groups = _groups_of(value, interned) if isinstance(value, Apart) else None
    if groups is None or len(groups) != len(interned.rows):
        return False
    if groups[apart[0]] == groups[apart[1]] or not all([groups[first] == groups[second] for first, second in pairs]):
        return False
    return _are_closed(interned, groups)


def _groups_of(value, interned):
    """By term: its group; None if a value does not tell groups of these terms, or tells one of them twice."""
    if not isinstance(value.groups, tuple) or not all([isinstance(group, tuple) for group in value.groups]):
        return None
    found = {}
    for index, group in enumerate(value.groups):
        for one in group:
            term = term_of(one)
            number = None if term is None else interned.known(term)
            if number is None or number in found:
                return None
            found[number] = index
    return found


def _are_closed(interned, groups):
    """Whether terms of one label, with parts in the same groups in pairs, are in one group."""
    by_row = {}
    for number, (label, inner) in enumerate(interned.rows):
        row = (label, *[groups[part] for part in inner])
        if inner and by_row.setdefault(row, groups[number]) != groups[number]:
            return False
    return True
