"""A cheapest of all members of a class, and floors that show that none is cheaper."""

from leastequal.classes import check_classes
from leastequal.costs import check_cost
from leastequal.errors import TooMany
from leastequal.papers import Paper
from leastequal.settling import Settling

MOST_SIZE = 2000
MOST_LEVELS = 30


class Cheapest(Paper):
    """A member of a class, and for each class a worth below which no member is."""

    def __init__(self, term, floors):
        Paper.__init__(self, "cheapest", term, floors)
        self.term = self.parts[0]
        self.floors = self.parts[1]


def floors(classes, cost):
    """The pairs of each class and the worth that the told way gives it, ascending."""
    check_classes(classes, "classes")
    check_cost(cost)
    return Settling(classes, cost).told_worths()


def cheapest(classes, place, cost):
    """The Cheapest of a class by the told way."""
    check_classes(classes, "classes")
    classes.head_at(place)
    check_cost(cost)
    settling = Settling(classes, cost)
    _, size, levels, _ = settling.settled[place]
    check_extent(size, levels)
    return Cheapest(settling.told_term(place), settling.told_worths())


def check_extent(size, levels):
    """Raises TooMany for a size and levels that a told term may not have."""
    if size > MOST_SIZE:
        raise TooMany("size", MOST_SIZE)
    if levels > MOST_LEVELS:
        raise TooMany("levels", MOST_LEVELS)
