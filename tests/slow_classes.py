"""A slow model of Classes, and slow ways to look at one through its interface alone."""

import itertools

from helpers import X, kind, parts
from leastequal.classes import Classes
from leastequal.term_texts import term_text


class SlowClasses:
    """Nodes in classes, told as sets, by the words of point [10]."""

    def __init__(self):
        self.held = {}
        self.many_made = 0
        self.record = []

    def node(self, term):
        """The node of a term whose parts lie in classes, None if one of them lies in none."""
        if not parts(term):
            return term
        inner = [self.class_of(part) for part in parts(term)]
        return None if None in inner else (term[0], *inner)

    def class_of(self, term):
        node = self.node(term)
        for place, nodes in self.held.items():
            if node in nodes:
                return place
        return None

    def put(self, term):
        for part in parts(term):
            self.put(part)
        found = self.class_of(term)
        if found is None:
            found = self.many_made
            self.held[found] = {self.node(term)}
            self.many_made += 1
        return found

    def join(self, one, other, why):
        first, second = self.put(one), self.put(other)
        if first == second:
            return False
        self.merge(first, second)
        self.record.append((one, other, why))
        return True

    def merge(self, first, second):
        low, high = min(first, second), max(first, second)
        self.held[low] |= self.held.pop(high)
        for place in self.held:
            self.held[place] = {
                node if not parts(node) else (node[0], *[low if part == high else part for part in node[1:]]) for node in self.held[place]
            }
        for one, other in itertools.combinations(sorted(self.held), 2):
            if self.held[one] & self.held[other]:
                self.merge(one, other)
                return

    def same_as(self, classes):
        """Whether a Classes has just these classes and this record."""
        if classes.places != tuple(sorted(self.held)) or classes.many != sum(len(nodes) for nodes in self.held.values()):
            return False
        if classes.record != tuple(self.record):
            return False
        return all(classes.nodes(place) == tuple(sorted(nodes)) for place, nodes in self.held.items())


def members_of(classes, most):
    """By class: all members of sizes up to a most one, by size, in no order; by going through the nodes."""
    places = classes.places
    found = {place: {size: [] for size in range(1, most + 1)} for place in places}
    for size in range(1, most + 1):
        for place in places:
            for node in classes.nodes(place):
                inner = node[1:] if parts(node) else ()
                for sizes in itertools.product(range(1, size), repeat=len(inner)):
                    if sum(sizes) == size - 1:
                        choices = [found[part][its] for part, its in zip(inner, sizes)]
                        found[place][size].extend((node[0], *some) if inner else node for some in itertools.product(*choices))
    return found


def all_first_terms(classes, most):
    """By class: of the members of the least size the one with the least text, if this size is not above a most one."""
    found = {}
    for place, by_size in members_of(classes, most).items():
        for size in sorted(by_size):
            if by_size[size]:
                found[place] = min(by_size[size], key=term_text)
                break
    return found


def class_with(homes, term, told):
    """The class of a side, with classes in the place of its names and flags; None if it lies in none."""
    if term in told:
        return told[term]
    inner = [class_with(homes, part, told) for part in parts(term)]
    return None if None in inner else homes.get((term[0], *inner) if inner else term)


def all_matches(classes, side):
    """The matches of a side, by a trial of all classes for all names and flags."""
    leaves = sorted({part for part in subterms_of(side) if part[0] in ("name", "flag")}, key=lambda leaf: leaf[1])
    choices = [[place for place in classes.places if classes.kind(place) == kind(leaf)] for leaf in leaves]
    homes = {node: place for place in classes.places for node in classes.nodes(place)}
    found = []
    for places in itertools.product(*choices):
        place = class_with(homes, side, dict(zip(leaves, places)))
        if place is not None:
            found.append((place, places))
    return tuple(sorted(found))


def subterms_of(term):
    return [term] + [deeper for part in parts(term) for deeper in subterms_of(part)]


def drawn_joins(rng, draw, many, size):
    """Pairs of terms of one kind to be joined."""
    for _ in range(many):
        wanted = rng.choice(["word", "word", "word", "truth"])
        yield draw.term(wanted, rng.randint(1, size)), draw.term(wanted, rng.randint(1, size))


def classes_of(*pairs):
    """A Classes in which pairs of terms were joined."""
    made = Classes()
    for index, (one, other) in enumerate(pairs):
        made.join(one, other, ("r", 1, (("x", X),)) if index % 2 else index)
    return made
