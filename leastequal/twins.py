"""Which classes of two Classes have members in common."""

from heapq import heappop, heappush

from leastequal.forms import is_leaf
from leastequal.walks import bottom_up


class Side:
    """One of two Classes: by node its class, and by class the nodes with a part in it, with their classes."""

    def __init__(self, classes):
        self.homes = {}
        self.users = {}
        # By class: the pairs that were found for it, in order.
        self.met = {}
        for place in classes.places:
            for row in classes.nodes(place):
                self.homes[row] = place
                for part in [] if is_leaf(row) else sorted(set(row[1:])):
                    self.users.setdefault(part, []).append((row, place))

    def home_of(self, label, parts):
        """The class of the node with a label and these classes of parts; None if there is none, or a part has none."""
        return None if None in parts else self.homes.get((label, *parts))


class Twins:
    """The pairs of a class of one Classes and one of another one, None for none, in which one term lies.

    They are found by the least sizes of such terms. rows has by pair this size, and a label with the pairs of parts,
    or a leaf, which make such a term.
    """

    def __init__(self, classes, other):
        self.sides = (Side(classes), Side(other))
        self.rows = {}
        self.least = {}
        self.heap = []
        self.offers = []
        ends = {row: True for side in self.sides for row in side.homes if is_leaf(row) or len(row) == 1}
        for row in sorted(ends):
            self.offer(1, (self.sides[0].homes.get(row), self.sides[1].homes.get(row)), row, ())

    def offer(self, size, pair, head, parts):
        """Puts a term of a size, told by its leaf or label and the pairs of its parts, among those that wait."""
        if pair not in self.least or size < self.least[pair]:
            self.least[pair] = size
            self.offers.append((pair, head, parts))
            heappush(self.heap, (size, len(self.offers) - 1))

    def next_pair(self):
        """The next pair, by the sizes of terms; None if there is no other one."""
        while self.heap:
            size, index = heappop(self.heap)
            pair, head, parts = self.offers[index]
            if pair not in self.rows:
                self.rows[pair] = (size, head, parts)
                for side, place in zip(self.sides, pair):
                    if place is not None:
                        side.met.setdefault(place, []).append(pair)
                self.offer_users(pair, 0)
                self.offer_users(pair, 1)
                return pair
        return None

    def offer_users(self, pair, which):
        """Offers all terms by nodes of one of both Classes that have a part in the class of a new pair."""
        side, other = self.sides[which], self.sides[1 - which]
        for row, place in side.users.get(pair[which], []):
            for parts in self.choices(side, row[1:], pair, pair[which]):
                its = other.home_of(row[0], [part[1 - which] for part in parts])
                # What lies in nodes of both is offered by the first one.
                if which == 0 or its is None:
                    size = 1 + sum([self.rows[part][0] for part in parts])
                    self.offer(size, (place, its) if which == 0 else (its, place), row[0], parts)

    def choices(self, side, places, pair, place):
        """The tuples of pairs for these classes of parts among which a new pair of a class is."""
        found = []
        for pivot in [index for index, one in enumerate(places) if one == place]:
            some = [()]
            for index, one in enumerate(places):
                pairs = side.met.get(one, [])
                if index == pivot:
                    pairs = [pair]
                elif index < pivot and one == place:
                    # The new pair is the last one of its class; it stands at the pivot first.
                    pairs = pairs[:-1]
                some = [(*parts, its) for parts in some for its in pairs]
            found.extend(some)
        return found

    def term_of(self, pair):
        """A term of the least size for a pair that was found."""
        return bottom_up(pair, self.pairs_of_parts, self.term_made)

    def pairs_of_parts(self, pair):
        """The pairs of the parts of the term for a pair."""
        return self.rows[pair][2]

    def term_made(self, pair, inner):
        """The term for a pair, from those of its parts."""
        head = self.rows[pair][1]
        return (head, *inner) if inner else head
