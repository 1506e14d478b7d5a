"""The told way to a cheapest member of each class: classes are settled one after another, the cheapest ones first."""

from heapq import heappop, heappush

from leastequal.costs import Worths
from leastequal.counts import inner_of
from leastequal.walks import bottom_up


class Settling:
    """By class: the worth, the size and the levels of its term, and the node of this term."""

    def __init__(self, classes, cost):
        self.worths = Worths(cost)
        self.rows = {place: classes.nodes(place) for place in classes.places}
        self.settled = {}
        self.heap = []
        waiting, users = {}, {}
        for place, rows in self.rows.items():
            for index, row in enumerate(rows):
                parts = sorted(set(inner_of(row)))
                waiting[(place, index)] = len(parts)
                for part in parts:
                    users.setdefault(part, []).append((place, index))
        for node, many in waiting.items():
            if many == 0:
                self.offer(node)
        while self.heap:
            worth, size, levels, place, index = heappop(self.heap)
            if place not in self.settled:
                self.settled[place] = (worth, size, levels, self.rows[place][index])
                for node in users.get(place, []):
                    waiting[node] -= 1
                    if waiting[node] == 0:
                        self.offer(node)

    def offer(self, node):
        """Puts a node whose parts are all settled among those that are ready."""
        place, index = node
        row = self.rows[place][index]
        parts = [self.settled[part] for part in inner_of(row)]
        worth = self.worths.worth_by(row[0], [part[0] for part in parts])
        size = 1 + sum([part[1] for part in parts])
        levels = 1 + max([part[2] for part in parts], default=0)
        heappush(self.heap, (worth, size, levels, place, index))

    def told_worths(self):
        """The pairs of each class and the worth of its term, ascending."""
        return tuple([(place, self.settled[place][0]) for place in sorted(self.settled)])

    def told_term(self, place):
        """The term of a class."""
        return bottom_up(place, self.places_of_parts, self.term_made)

    def places_of_parts(self, place):
        """The classes of the parts of the term of a class."""
        return inner_of(self.settled[place][3])

    def term_made(self, place, inner):
        """The term of a class from those of its parts."""
        row = self.settled[place][3]
        return (row[0], *inner) if inner else row
