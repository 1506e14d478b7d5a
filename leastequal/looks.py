"""Classes made ready to be looked through by labels, and the matches, folds and turns that are found there."""

from leastequal.calls import fold_of, is_fold_label, turn_of
from leastequal.forms import is_leaf
from leastequal.patterns import Pattern


def look_at(classes):
    """The Look of a Classes, which is kept until the classes change."""
    if "look" not in classes.kept:
        classes.kept["look"] = Look(classes)
    return classes.kept["look"]


class Look:
    """The nodes of a Classes as they stand, classes told by their numbers.

    by_label has by label, then by class, the tuples of the classes of the parts of its nodes, leaves aside. homes has
    by node its class; numbers has by class the numbers in it.
    """

    def __init__(self, classes):
        self.by_label = {}
        self.homes = {}
        self.numbers = {}
        web = classes.web
        for index in web.at.values():
            row = web.rows[index]
            place = web.least[web.heads[web.homes[index]]]
            node = web.in_places(row)
            self.homes[node] = place
            if is_leaf(row):
                if row[0] == "number":
                    self.numbers.setdefault(place, []).append(row[1])
            else:
                self.by_label.setdefault(row[0], {}).setdefault(place, []).append(node[1:])

    def matches_of(self, side, most):
        """The matches of a side, ascending, or more than most of them."""
        return sorted(Pattern(side, self).matches(most))

    def folds_of(self, most):
        """The folds, ascending, or more than most of them, which may be None for no bound."""
        found = []
        for label in [label for label in self.by_label if is_fold_label(label)]:
            for place, rows in self.by_label[label].items():
                for parts in rows:
                    self.add_folds(found, (place, label, parts), most)
        return sorted(found)

    def add_folds(self, found, node, most):
        """Puts the folds of a node, told with its class, behind others, as long as these are not more than most."""
        place, label, parts = node
        for one in self.numbers.get(parts[0], []):
            for other in self.numbers.get(parts[1], []) if len(parts) == 2 else [None]:
                if most is not None and len(found) > most:
                    return
                numbers = [one] if other is None else [one, other]
                term = (label, *[("number", number) for number in numbers])
                if fold_of(term) is not None:
                    found.append((place, term))

    def turns_of(self, program, most):
        """The turns, ascending, or more than most of them, which may be None for no bound."""
        found = []
        for label in [label for label in self.by_label if label.startswith("loop ")]:
            for place, rows in self.by_label[label].items():
                for count, *state in rows:
                    for number in self.numbers.get(count, []):
                        if most is not None and len(found) > most:
                            return found
                        if turn_of(program, loop_over(label, number, state)) is not None:
                            found.append((place, label, number, tuple(state)))
        return sorted(found)


def loop_over(label, number, state):
    """A loop over a number, with a name for each part behind it that tells its class."""
    return (label, ("number", number), *[("name", place) for place in state])
