"""The cheapest members of a class for each number of registers, and with parts that are stored for a price."""

from leastequal.cheapest import check_extent
from leastequal.checks import is_within
from leastequal.classes import check_classes
from leastequal.costs import MOST_WEIGHT, Weights
from leastequal.errors import BadCost, BadNumber, Misfit
from leastequal.papers import Paper
from leastequal.points import Points
from leastequal.registers import MOST_REGISTERS, check_many
from leastequal.stores import LEAST_REGISTERS


class Front(Paper):
    """Members of a class that are cheapest for their needs of registers, and floors by registers."""

    def __init__(self, entries, floors):
        Paper.__init__(self, "front", entries, floors)
        self.entries = self.parts[0]
        self.floors = self.parts[1]


class StoredBest(Paper):
    """A member of a class and a cut of it that are cheapest with a price for each store, and floors by registers."""

    def __init__(self, term, cut, floors):
        Paper.__init__(self, "storedbest", term, cut, floors)
        self.term = self.parts[0]
        self.cut = self.parts[1]
        self.floors = self.parts[2]


def front(classes, place, cost):
    """The Front of a class."""
    check_for_front(classes, place, cost)
    points = Points(classes, cost, MOST_REGISTERS, None)
    chosen = []
    for registers in range(1, MOST_REGISTERS + 1):
        point = points.best_for(place, registers)
        # Members of one worth may have unlike sizes; a lower need goes ahead of a lesser size.
        if point is not None and (not chosen or _worth_at(points, point) < _worth_at(points, chosen[-1][1])):
            chosen.append((registers, point))
    if not chosen:
        raise Misfit("registers")
    extents = [points.points[point][1] for _, point in chosen]
    check_extent(max([size for _, size, _ in extents]), max([levels for _, _, levels in extents]))
    entries = [(registers, _worth_at(points, point), points.told_term(point)) for registers, point in chosen]
    return Front(entries, points.told_worths())


def check_for_front(classes, place, cost):
    """Raises the error of the first of these that is not what it should be."""
    check_classes(classes, "classes")
    classes.head_at(place)
    if not isinstance(cost, Weights):
        raise BadCost("cost")


def _worth_at(points, point):
    return points.points[point][1][0]


def stored_best(classes, place, cost, price, many):
    """The StoredBest of a class."""
    check_for_stored(classes, place, cost, price, many)
    points = Points(classes, cost, many, price)
    point = points.best_for(place, many)
    _, size, levels = points.points[point][1]
    check_extent(size, levels)
    return StoredBest(points.told_term(point), points.told_cut(point), points.told_worths())


def check_for_stored(classes, place, cost, price, many):
    """Raises the error of the first of these that is not what it should be."""
    check_for_front(classes, place, cost)
    if not is_within(price, 1, MOST_WEIGHT):
        raise BadNumber("price")
    check_many(many, LEAST_REGISTERS)
