"""Pairs of classes of two Classes, and whether they are closed under the nodes of both."""

from leastequal.choices import many_tuples
from leastequal.counts import inner_of


class Pairing:
    """Pairs of a class of one Classes and one of another one, None for none.

    For each of both sides: homes has the class of each node; partners has by class those of the other side that stand
    beside it; rows has by (label, how many parts, index, class) the parts of the nodes with this class at this index.
    """

    def __init__(self, classes, other, pairs):
        self.pairs = {pair: True for pair in pairs}
        self.homes = [_homes_of(classes), _homes_of(other)]
        self.rows = [_rows_of(homes) for homes in self.homes]
        self.partners = [{}, {}]
        for pair in self.pairs:
            for side in (0, 1):
                if pair[side] is not None:
                    self.partners[side].setdefault(pair[side], []).append(pair[1 - side])

    def is_closed(self):
        """Whether each pair that follows from the nodes and the pairs of their parts is among the pairs."""
        for side in (0, 1):
            for row, home in self.homes[side].items():
                for its in self.homes_beside(side, row):
                    if ((home, its) if side == 0 else (its, home)) not in self.pairs:
                        return False
        return True

    def homes_beside(self, side, row):
        """The classes of the nodes that partners of the parts of a node make on the other side, None for none."""
        homes = self.homes[1 - side]
        inner = inner_of(row)
        if not inner:
            return [homes.get(row)]
        choices = [self.partners[side].get(part, []) for part in inner]
        # There may be far more tuples of partners than nodes, so the nodes are gone through, and the others counted.
        nodes = [(row[0], *parts) for parts in self.rows_beside(side, row[0], choices)]
        found = [homes[node] for node in nodes]
        return found if len(found) == many_tuples(choices) else [*found, None]

    def rows_beside(self, side, label, choices):
        """The parts of the nodes of the other side with this label whose parts are among these choices, in order."""
        rows = self.rows[1 - side]
        offers = []
        for index, some in enumerate(choices):
            offers.append([rows.get((label, len(choices), index, part), []) for part in some])
        fewest = min(offers, key=lambda lists: sum([len(one) for one in lists]))
        allowed = [{part: True for part in some} for some in choices]
        reached = [parts for some in fewest for parts in some]
        return [parts for parts in reached if all([part in its for part, its in zip(parts, allowed)])]


def _homes_of(classes):
    return {row: place for place in classes.places for row in classes.nodes(place)}


def _rows_of(homes):
    rows = {}
    for row in homes:
        inner = inner_of(row)
        for index, part in enumerate(inner):
            rows.setdefault((row[0], len(inner), index, part), []).append(inner)
    return rows
