"""Looking at papers that tell cheapest members of a class by registers."""

from leastequal.check_cheapest import tells_each
from leastequal.checks import is_integer
from leastequal.costs import Worths, cost_of
from leastequal.counts import inner_of
from leastequal.cuts import needs_of_parts
from leastequal.forms import term_of
from leastequal.fronts import Front, StoredBest, check_for_front, check_for_stored
from leastequal.plans import plans_with_cut
from leastequal.registers import MOST_REGISTERS, need_of
from leastequal.stores import is_cut


def shows_front(classes, place, cost, value):
    """Whether a value is a right Front of a class."""
    check_for_front(classes, place, cost)
    if not isinstance(value, Front) or not _are_floors(classes, cost, None, MOST_REGISTERS, value.floors):
        return False
    floors = [floors for one, floors in value.floors if one == place][0]
    wanted = _entries_wanted(floors)
    if not isinstance(value.entries, tuple) or len(value.entries) != len(wanted):
        return False
    return all([_is_entry(classes, place, cost, entry, its) for entry, its in zip(value.entries, wanted)])


def _entries_wanted(floors):
    """The pairs of a number of registers and its floor at which a floor is told first, or is lower than ahead."""
    wanted = []
    for index, floor in enumerate(floors):
        if floor is not None and (not wanted or (floors[index - 1] is not None and floor < floors[index - 1])):
            wanted.append((index + 1, floor))
    return wanted


def _is_entry(classes, place, cost, entry, wanted):
    """Whether an entry tells this number of registers and this worth, and a member of a class that has them."""
    if not isinstance(entry, tuple) or len(entry) != 3 or not all([is_integer(one) for one in entry[:2]]):
        return False
    if entry[:2] != wanted or not _is_member(classes, place, entry[2]):
        return False
    return need_of(entry[2]) <= wanted[0] and cost_of(entry[2], cost) == wanted[1]


def _is_member(classes, place, value):
    return term_of(value) is not None and classes.class_of(value) == place


def shows_stored_best(classes, place, cost, price, many, value):
    """Whether a value is a right StoredBest of a class."""
    check_for_stored(classes, place, cost, price, many)
    if not isinstance(value, StoredBest) or not _are_floors(classes, cost, price, many, value.floors):
        return False
    if not _is_member(classes, place, value.term) or not is_cut(term_of(value.term), value.cut):
        return False
    if max([plan[0] for plan in plans_with_cut(term_of(value.term), value.cut)]) > many:
        return False
    floors = [floors for one, floors in value.floors if one == place][0]
    return cost_of(value.term, cost) + price * len(value.cut) == floors[many - 1]


def _are_floors(classes, cost, price, registers, value):
    """Whether a value is floors by so many registers, with a price if there is one, that no node undercuts."""
    if not tells_each(value, classes):
        return False
    if not all([_are_worths(worths, registers) for _, worths in value]):
        return False
    table = {place: worths for place, worths in value}
    parts = {place: _as_parts(worths, price) for place, worths in value}
    worths = Worths(cost)
    for place in table:
        for row in classes.nodes(place):
            inner = [parts[part] for part in inner_of(row)]
            if _undercuts(row[0], worths.weight_of_label(row[0]), inner, table[place]):
                return False
    return True


def _are_worths(value, registers):
    if not isinstance(value, tuple) or len(value) != registers:
        return False
    return all([worth is None or is_integer(worth) for worth in value])


def _as_parts(worths, price):
    """By a number of registers, from 0 on: the least that a part adds for them; None if it has no member."""
    stored = None if price is None or worths[-1] is None else worths[-1] + price
    if stored is None:
        return (None, *worths)
    return (None, *[stored if worth is None else min(worth, stored) for worth in worths])


def _undercuts(label, weight, inner, floors):
    """Whether a node, by what its parts add, has for some number of registers a lesser worth than the floor."""
    for index, floor in enumerate(floors):
        for needs in needs_of_parts(label, len(inner), index + 1):
            added = [part[max(0, need)] for part, need in zip(inner, needs)]
            if None not in added and (floor is None or weight + sum(added) < floor):
                return True
    return False
