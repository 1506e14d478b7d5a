"""The terms that joins bring together, and the lines between them, along which one becomes the other."""

from leastequal.forms import is_leaf
from leastequal.webs import Web


class Lines:
    """All terms of some joins, two given ones and all their parts, by number; parts have lesser numbers.

    A line is (first, second, join): two numbers, and the index of the join that brought them together, None if it was
    by their parts. The joins are done in order until both given terms are together, so many as moment tells; it is
    None if all joins leave them apart.
    """

    def __init__(self, joins, one, other):
        self.web = Web()
        self.ends = [(self.web.put(join[0]), self.web.put(join[1])) for join in joins]
        self.one = self.web.put(one)
        self.other = self.web.put(other)
        # As long as nothing is joined, heads are the numbers of terms.
        self.rows = list(self.web.rows)
        self.found = []
        self.moment = self.done()

    def done(self):
        """Does the joins: how many bring both given terms together."""
        for index, (first, second) in enumerate(self.ends):
            if self.are_together():
                return index
            for line in self.web.unite(first, second):
                self.found.append((*line, index if line == (first, second) else None))
        return len(self.ends) if self.are_together() else None

    def are_together(self):
        """Whether both given terms are together."""
        return self.web.heads[self.one] == self.web.heads[self.other]

    def all_terms(self):
        """The terms by number."""
        made = []
        for row in self.rows:
            made.append(row if is_leaf(row) else (row[0], *[made[part] for part in row[1:]]))
        return made

    def in_groups(self):
        """The terms that are together, ascending, all groups ascending."""
        groups = {}
        for number, term in enumerate(self.all_terms()):
            groups.setdefault(self.web.heads[number], []).append(term)
        return sorted([sorted(group) for group in groups.values()])


class Ways:
    """The ways along lines: of each number the one ahead of it on the way from the first of its group."""

    def __init__(self, lines):
        self.lines = lines
        self.ahead = {}
        self.depths = {}
        beside = {}
        for index, (first, second, _) in enumerate(lines.found):
            beside.setdefault(first, []).append((second, index, -1))
            beside.setdefault(second, []).append((first, index, 1))
        for number in range(len(lines.rows)):
            if number not in self.depths:
                self.reach_from(number, beside)

    def reach_from(self, start, beside):
        """Tells the ways of all numbers of the group of a first one."""
        self.depths[start] = 0
        waiting = [start]
        while waiting:
            number = waiting.pop()
            for other, index, way in beside.get(number, []):
                if other not in self.depths:
                    self.depths[other] = self.depths[number] + 1
                    self.ahead[other] = (number, index, way)
                    waiting.append(other)

    def between(self, one, other):
        """The pairs of a line and 1 or -1, which leads back along it, on the way from one number to another one."""
        begin, end = [], []
        while one != other:
            if self.depths[one] >= self.depths[other]:
                one, index, way = self.ahead[one]
                begin.append((index, way))
            else:
                other, index, way = self.ahead[other]
                end.append((index, -way))
        return begin + end[::-1]

    def exchanges(self, index):
        """The lines with their ways and places, by which parts make the ends of a line equal."""
        first, second, _ = self.lines.found[index]
        found = []
        pairs = list(zip(self.lines.rows[first][1:], self.lines.rows[second][1:]))
        for place, (one, other) in enumerate(pairs):
            found.extend([(line, way, (place,)) for line, way in self.between(one, other)])
        return found
