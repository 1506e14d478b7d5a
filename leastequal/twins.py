"""Which classes of two Classes have members in common."""

from heapq import heappop, heappush

from leastequal.choices import all_tuples, many_tuples
from leastequal.forms import is_leaf
from leastequal.walks import bottom_up


class Side:
    """One of two Classes: by node its class, and by class, and by class and label, the nodes with a part in it."""

    def __init__(self, classes):
        self.homes = {}
        self.users = {}
        self.by_label = {}
        # By class: the pairs that were found for it, in order.
        self.met = {}
        for place in classes.places:
            for row in classes.nodes(place):
                self.homes[row] = place
                for part in [] if is_leaf(row) else sorted(set(row[1:])):
                    self.users.setdefault(part, []).append((row, place))
                    self.by_label.setdefault((part, row[0]), []).append((row, place))

    def home_of(self, label, parts):
        """The class of the node with a label and these classes of parts; None if there is none, or a part has none."""
        return None if None in parts else self.homes.get((label, *parts))


class Twins:
    """The pairs of a class of one Classes and one of another one, None for none, in which one term lies.

    They are found by the least sizes of such terms. rows has by pair this size, and a label with the pairs of parts,
    or a leaf, which make such a term.
    """

    def __init__(self, classes, other):
        self.sides = (Side(classes), Side(other))
        self.rows = {}
        self.least = {}
        self.heap = []
        self.offers = []
        ends = {row: True for side in self.sides for row in side.homes if is_leaf(row) or len(row) == 1}
        for row in sorted(ends):
            self.offer((self.sides[0].homes.get(row), self.sides[1].homes.get(row)), row, ())

    def offer(self, pair, head, parts):
        """Puts a term, told by its leaf or label and the pairs of its parts, among those that wait."""
        size = 1 + sum([self.rows[part][0] for part in parts])
        if pair not in self.least or size < self.least[pair]:
            self.least[pair] = size
            self.offers.append((pair, head, parts))
            heappush(self.heap, (size, len(self.offers) - 1))

    def next_pair(self):
        """The next pair, by the sizes of terms; None if there is no other one."""
        while self.heap:
            size, index = heappop(self.heap)
            pair, head, parts = self.offers[index]
            if pair not in self.rows:
                self.rows[pair] = (size, head, parts)
                for side, place in zip(self.sides, pair):
                    if place is not None:
                        side.met.setdefault(place, []).append(pair)
                self.offer_shared(pair)
                self.offer_lone(pair, 0)
                self.offer_lone(pair, 1)
                return pair
        return None

    def offer_shared(self, pair):
        """Offers terms that have a part in a new pair and lie in classes of both Classes."""
        one, other = self.sides
        for row, place in one.users.get(pair[0], []):
            nodes = other.by_label.get((pair[1], row[0]), [])
            ways = self.choices(one, row[1:], pair, pair[0])
            # There may be far more tuples of pairs than nodes that they could make, or far fewer.
            if sum([many_tuples(choices) for choices in ways]) <= len(nodes):
                tuples = [parts for choices in ways for parts in all_tuples(choices)]
            else:
                tuples = [tuple(list(zip(row[1:], its[1:]))) for its, _ in nodes if len(its) == len(row)]
                tuples = [parts for parts in tuples if pair in parts and all([part in self.rows for part in parts])]
            for parts in tuples:
                home = other.home_of(row[0], [part[1] for part in parts])
                if home is not None:
                    self.offer((place, home), row[0], parts)

    def offer_lone(self, pair, which):
        """Offers the least terms that have a part in a new pair and lie in classes of just one of both Classes."""
        side = self.sides[which]
        for row, place in side.users.get(pair[which], []):
            lone = (place, None) if which == 0 else (None, place)
            if lone not in self.rows:
                for choices in self.choices(side, row[1:], pair, pair[which]):
                    parts = self.least_lone(choices, row[0], 1 - which)
                    if parts is not None:
                        self.offer(lone, row[0], parts)

    def choices(self, side, places, pair, place):
        """Rows of lists, one for each place where a new pair of a class may stand first: the pairs for each part."""
        found = []
        for pivot in [index for index, one in enumerate(places) if one == place]:
            lists = []
            for index, one in enumerate(places):
                pairs = side.met.get(one, [])
                # The new pair is the last one of its class.
                ahead = pairs[:-1] if index < pivot and one == place else pairs
                lists.append([pair] if index == pivot else ahead)
            if all(lists):
                found.append(lists)
        return found

    def least_lone(self, choices, label, which):
        """Of the tuples of pairs a least one that makes no node of one of both Classes; None if all make one."""
        seen = set()
        start = (0,) * len(choices)
        waiting = [(0, start)]
        seen.add(start)
        while waiting:
            _, indexes = heappop(waiting)
            parts = tuple([pairs[index] for pairs, index in zip(choices, indexes)])
            if self.sides[which].home_of(label, [part[which] for part in parts]) is None:
                return parts
            for place, index in enumerate(indexes):
                following = (*indexes[:place], index + 1, *indexes[place + 1:])
                if index + 1 < len(choices[place]) and following not in seen:
                    seen.add(following)
                    # Pairs stand by size, so no lesser tuple comes behind a greater one.
                    sizes = [self.rows[pairs[index]][0] for pairs, index in zip(choices, following)]
                    heappush(waiting, (sum(sizes), following))
        return None

    def term_for(self, pair):
        """A term of the least size for a pair that was found."""
        return bottom_up(pair, self.pairs_of_parts, self.term_made)

    def pairs_of_parts(self, pair):
        """The pairs of the parts of the term for a pair."""
        return self.rows[pair][2]

    def term_made(self, pair, inner):
        """The term for a pair, from those of its parts."""
        head = self.rows[pair][1]
        return (head, *inner) if inner else head
