"""Looking at papers that tell a cheapest member of a class."""

from leastequal.cheapest import Cheapest
from leastequal.checks import are_pairs, is_integer
from leastequal.classes import check_classes
from leastequal.costs import Both, Worths, check_cost, cost_of
from leastequal.counts import inner_of
from leastequal.forms import term_of


def shows_cheapest(classes, place, cost, value):
    """Whether a value is a right Cheapest of a class."""
    check_classes(classes, "classes")
    classes.head_at(place)
    check_cost(cost)
    if not isinstance(value, Cheapest) or not tells_each(value.floors, classes):
        return False
    table = {one: worth for one, worth in value.floors}
    if not all([is_worth(worth, cost) for worth in table.values()]) or not _are_floors(classes, cost, table):
        return False
    term = term_of(value.term)
    return term is not None and classes.class_of(term) == place and cost_of(term, cost) == table[place]


def tells_each(value, classes):
    """Whether a value is pairs of each class, ascending, and something else."""
    if not are_pairs(value) or not all([is_integer(pair[0]) for pair in value]):
        return False
    return [pair[0] for pair in value] == list(classes.places)


def is_worth(value, cost):
    """Whether a value is an integer, or a pair of integers where a cost tells pairs."""
    if isinstance(cost, Both):
        return isinstance(value, tuple) and len(value) == 2 and all([is_integer(one) for one in value])
    return is_integer(value)


def _are_floors(classes, cost, table):
    """Whether no node has a lesser worth than the floor of its class."""
    worths = Worths(cost)
    for place, floor in table.items():
        for row in classes.nodes(place):
            if worths.worth_by(row[0], [table[part] for part in inner_of(row)]) < floor:
                return False
    return True
