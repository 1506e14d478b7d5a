"""The cheapest members of classes for each number of registers, with or without parts that are stored for a price."""

from heapq import heappop, heappush

from leastequal.choices import all_tuples
from leastequal.costs import Worths
from leastequal.counts import inner_of
from leastequal.needs import need_by
from leastequal.spellings import called
from leastequal.walks import bottom_up


class Points:
    """Points of classes: a need with the least (worth, size, levels) of a member that has at most this need.

    A point is (need, extent, row, uses), the extent being the triple. The uses of the parts are pairs: the number of a
    point, and whether the part is stored. They are found as extents ascend, so needs fall within each class. own has by
    class the numbers of its points; usable has by class the pairs of a need and a use, by which it may be a part.
    """

    def __init__(self, classes, cost, registers, price):
        self.worths = Worths(cost)
        self.registers = registers
        self.price = price
        self.points = []
        self.own = {place: [] for place in classes.places}
        self.usable = {place: [] for place in classes.places}
        self.users = {}
        self.heap = []
        self.offers = []
        for place in classes.places:
            for row in classes.nodes(place):
                for part in sorted(set(inner_of(row))):
                    self.users.setdefault(part, []).append((place, row))
                if not inner_of(row):
                    self.offer(place, row, [])
        while self.heap:
            extent, need, index = heappop(self.heap)
            self.settle(extent, need, index)

    def offer(self, place, row, pairs):
        """Puts a node, with pairs of a need and a use for its parts, among the points that wait, if it may be one."""
        need = need_by(row[0], [one for one, _ in pairs])
        if need > self.registers or not self.is_lower(need, [self.points[point][0] for point in self.own[place]]):
            return
        extents = [self.extent_of(use) for _, use in pairs]
        worth = self.worths.weight_of_label(row[0]) + sum([extent[0] for extent in extents])
        size = 1 + sum([extent[1] for extent in extents])
        levels = 1 + max([extent[2] for extent in extents], default=0)
        self.offers.append((place, row, tuple([use for _, use in pairs])))
        heappush(self.heap, ((worth, size, levels), need, len(self.offers) - 1))

    def is_lower(self, need, needs):
        """Whether a need is below the last one of these, the least one."""
        return not needs or need < needs[-1]

    def extent_of(self, use):
        """The worth, the size and the levels that a part adds."""
        worth, size, levels = self.points[use[0]][1]
        return (worth + self.price, size, levels) if use[1] else (worth, size, levels)

    def settle(self, extent, need, index):
        """Takes the offer that is the next one."""
        place, row, uses = self.offers[index]
        if row is None:
            self.add_usable(place, need, uses)
        elif self.is_lower(need, [self.points[point][0] for point in self.own[place]]):
            point = len(self.points)
            self.points.append((need, extent, row, uses))
            self.own[place].append(point)
            self.add_usable(place, need, (point, False))
            if self.price is not None and len(self.own[place]) == 1:
                # Stored, it is as good as a leaf, for the price.
                self.offers.append((place, None, (point, True)))
                heappush(self.heap, (self.extent_of((point, True)), 1, len(self.offers) - 1))

    def add_usable(self, place, need, use):
        """Lets a class be a part in one more way, if no cheaper way has so low a need."""
        needs = [one for one, _ in self.usable[place]]
        if self.is_lower(need, needs):
            self.usable[place].append((need, use))
            most = needs[-1] - 1 if needs else self.registers
            for home, row in self.users.get(place, []):
                if called(row[0]) is not None:
                    self.offer_calls(home, row, need, most)
                else:
                    self.offer_all(home, row, place)

    def offer_calls(self, home, row, least, most):
        """Offers a call or a loop for each number of registers: its parts are told for the same one."""
        ahead = None
        for need in range(least, most + 1):
            pairs = [self.usable_for(part, need) for part in inner_of(row)]
            if None not in pairs and pairs != ahead:
                self.offer(home, row, pairs)
            ahead = pairs

    def usable_for(self, place, most):
        """The cheapest way to be a part with a need of at most so many registers, None if there is none yet."""
        for pair in self.usable[place]:
            if pair[0] <= most:
                return pair
        return None

    def offer_all(self, home, row, place):
        """Offers a node with all ways for its parts, in one of which at least the class is a part in its last way."""
        inner = inner_of(row)
        for pivot in [index for index, part in enumerate(inner) if part == place]:
            ways = []
            for index, part in enumerate(inner):
                some = self.usable[part]
                if index == pivot:
                    ways.append(some[-1:])
                else:
                    ways.append(some[:-1] if index < pivot and part == place else some)
            for pairs in all_tuples(ways):
                self.offer(home, row, pairs)

    def best_for(self, place, registers):
        """The cheapest point of a class with a need of at most so many registers, None if there is none."""
        for point in self.own[place]:
            if self.points[point][0] <= registers:
                return point
        return None

    def told_worths(self):
        """The pairs of each class and the least worths for each number of registers, None where there is none."""
        told = []
        for place in self.own:
            best = [self.best_for(place, registers) for registers in range(1, self.registers + 1)]
            told.append((place, tuple([None if point is None else self.points[point][1][0] for point in best])))
        return told

    def told_term(self, point):
        """The term of a point."""
        return bottom_up(point, self.points_of_parts, self.term_made)

    def points_of_parts(self, point):
        """The points of the parts of the term of a point."""
        return [use[0] for use in self.points[point][3]]

    def term_made(self, point, inner):
        """The term of a point from those of its parts."""
        row = self.points[point][2]
        return (row[0], *inner) if inner else row

    def told_cut(self, point):
        """The places of the parts that are stored in the term of a point, ascending."""
        found = []
        waiting = [(point, ())]
        while waiting:
            one, place = waiting.pop()
            for index, (part, is_stored) in enumerate(self.points[one][3]):
                waiting.append((part, (*place, index)))
                if is_stored:
                    found.append((*place, index))
        return tuple(sorted(found))
