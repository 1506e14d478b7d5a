"""How many members of each size a class has, and in which order they stand."""

from leastequal.forms import is_leaf


def places_below(classes, place):
    """The numbers of a class and of all classes below it, each behind those below it; None if it is endless."""
    marks = {}
    found = []
    waiting = [(place, False)]
    while waiting:
        one, is_done = waiting.pop()
        if is_done:
            marks[one] = "done"
            found.append(one)
        elif marks.get(one) == "open":
            # This class is met on a way down from itself.
            return None
        elif one not in marks:
            marks[one] = "open"
            waiting.append((one, True))
            waiting.extend([(part, False) for row in classes.nodes(one) for part in inner_of(row)])
    return found


def inner_of(row):
    """The classes of the parts of a node."""
    return () if is_leaf(row) else row[1:]


class Counts:
    """The members of a class, and of the classes below it, by size.

    counts has by class how many members of each size it has, from size 0 on; ways has by a tuple of classes, in how
    many ways members of these have some size together.
    """

    def __init__(self, classes, place):
        self.rows = {}
        waiting = [place]
        while waiting:
            one = waiting.pop()
            if one not in self.rows:
                self.rows[one] = classes.nodes(one)
                waiting.extend([part for row in self.rows[one] for part in inner_of(row)])
        self.counts = {one: [0] for one in self.rows}
        self.ways = {(): [1]}
        self.reached = 0
        for parts in [inner_of(row) for one in self.rows for row in self.rows[one]]:
            for first in range(len(parts)):
                self.ways[parts[first:]] = []

    def reach(self, size):
        """Counts up to a size."""
        for made in range(self.reached + 1, size + 1):
            self.reached = made
            for tail in list(self.ways):
                if tail:
                    self.ways[tail].append(self.ways_of(tail, made - 1))
                elif made > 1:
                    self.ways[tail].append(0)
            for one in self.rows:
                self.counts[one].append(sum([self.ways[inner_of(row)][made - 1] for row in self.rows[one]]))

    def ways_of(self, tail, total):
        """In how many ways members of these classes have a total size."""
        many, its = self.counts[tail[0]], self.ways[tail[1:]]
        return sum([many[size] * its[total - size] for size in range(1, total + 1) if many[size]])

    def many_of(self, place, size):
        """How many members of a size a class has."""
        self.reach(size)
        return self.counts[place][size]

    def member(self, place, size, index):
        """The member of a size of a class at an index; members of this size must be counted already."""
        made = []
        waiting = [(place, size, index, None)]
        while waiting:
            place, size, index, row = waiting.pop()
            if row is not None:
                first = len(made) - len(inner_of(row))
                made[first:] = [(row[0], *made[first:]) if inner_of(row) else row]
                continue
            row, index = self.node_at(place, size, index)
            waiting.append((place, size, index, row))
            waiting.extend(self.parts_at(inner_of(row), size - 1, index)[::-1])
        return made[0]

    def node_at(self, place, size, index):
        """The node of the member at an index, and the index among the members of this node."""
        for row in self.rows[place]:
            many = self.ways[inner_of(row)][size - 1]
            if index < many:
                return row, index
            index -= many
        return None

    def parts_at(self, inner, total, index):
        """The parts of the member at an index among those of a node: tuples of a class, a size, an index, and None."""
        sizes = []
        ahead = 1
        for first, place in enumerate(inner):
            size = 0
            block = 0
            while index >= block:
                index -= block
                size += 1
                block = ahead * self.counts[place][size] * self.ways[inner[first + 1:]][total - size]
            sizes.append(size)
            ahead *= self.counts[place][size]
            total -= size
        parts = []
        for place, size in zip(inner[::-1], sizes[::-1]):
            index, rest = divmod(index, self.counts[place][size])
            parts.append((place, size, rest, None))
        return parts[::-1]

    def index_by(self, place, row, parts):
        """The size and the index of a member by its node, from the sizes and indexes of its parts."""
        inner = inner_of(row)
        rest = sum([size for size, _ in parts])
        self.reach(rest + 1)
        whole = rest + 1
        index = 0
        for other in self.rows[place]:
            if other == row:
                break
            index += self.ways[inner_of(other)][rest]
        ahead = 1
        among = 0
        for first, (size, its) in enumerate(parts):
            many, behind = self.counts[inner[first]], self.ways[inner[first + 1:]]
            index += ahead * sum([many[less] * behind[rest - less] for less in range(1, size)])
            ahead *= many[size]
            rest -= size
            among = among * many[size] + its
        return whole, index + among
