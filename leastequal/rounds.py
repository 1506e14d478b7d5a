"""Rounds, by which classes grow."""

from leastequal.calls import fold_of, turn_of
from leastequal.checks import is_within
from leastequal.classes import Classes, check_classes
from leastequal.errors import BadNumber, Misfit, TooMany
from leastequal.forms import checked_term, many_levels, many_parts, parts_of
from leastequal.looks import look_at, loop_over
from leastequal.papers import fixed
from leastequal.patterns import is_open_leaf, leaves_of, with_leaves
from leastequal.program import unfit
from leastequal.rules import NO_RULES
from leastequal.shelves import check_shelf
from leastequal.walks import bottom_up

MOST_IN_ROUND = 1000
MOST_ROUNDS = 8
MOST_PARTNER_SIZE = 2000
MOST_PARTNER_LEVELS = 60
MOST_SIZE = 200
MOST_LEVELS = 30


def round_of(classes, shelf, most):
    """Does a round: how many matches, folds and turns there were, whether it is cut, and whether it is still."""
    check_classes(classes, "classes")
    check_shelf(shelf)
    check_most(most)
    return _done(classes, shelf, most)


def check_most(most):
    """Raises BadNumber for what is no bound of a round."""
    if not is_within(most, 1, MOST_IN_ROUND):
        raise BadNumber("most")


def _done(classes, shelf, most):
    found = _joins_of(classes, shelf, most)
    if len(found) > most:
        return most + 1, True, False
    made = Round(classes)
    if any([made.is_great(join) for join in found]):
        return len(found), True, False
    changes = [made.do(join) for join in found]
    return len(found), False, not any(changes)


def _joins_of(classes, shelf, most):
    """All that a round joins, in order; more than most if there are more.

    A join is (rule, way, side, partner, stands): the sides that match, with the classes for their leaves.
    """
    look = look_at(classes)
    found = []
    for rule in shelf.rules:
        for way in (1, -1)[:rule.ways]:
            side, partner = (rule.left, rule.right) if way == 1 else (rule.right, rule.left)
            leaves = leaves_of(side)
            for _, places in look.matches_of(side, most - len(found)):
                found.append((rule.name, way, side, partner, {leaf: place for leaf, place in zip(leaves, places)}))
            if len(found) > most:
                return found
    for _, term in look.folds_of(most - len(found)):
        found.append(("fold", 1, term, fold_of(term), {}))
    for _, label, number, state in look.turns_of(shelf.program, max(0, most - len(found))):
        loop = loop_over(label, number, state)
        found.append(("turn", 1, loop, turn_of(shelf.program, loop), {part: part[1] for part in loop[2:]}))
    return found


class Round:
    """What is done to a Classes in a round, with the first terms that its classes had ahead of it."""

    def __init__(self, classes):
        self.classes = classes
        self.web = classes.web
        self.firsts = classes.all_firsts()
        # Classes that become one in the round keep their old heads here.
        self.heads = {place: self.web.by_place[place] for place in self.web.by_place}

    def is_great(self, join):
        """Whether the partner has too great a size, or too many levels."""
        _, _, _, partner, stands = join
        size, levels = bottom_up(partner, parts_of, lambda part, inner: self.measure(part, inner, stands))
        return size > MOST_PARTNER_SIZE or levels > MOST_PARTNER_LEVELS

    def measure(self, part, inner, stands):
        """The size and the levels of a part with first terms put in."""
        if is_open_leaf(part):
            head = self.heads[stands[part]]
            return self.firsts.sizes[head], self.firsts.levels[head]
        return 1 + sum([size for size, _ in inner]), 1 + max([levels for _, levels in inner], default=0)

    def do(self, join):
        """Joins a term with its partner: whether anything changed."""
        name, way, side, partner, stands = join
        many = len(self.web.heads)
        heads = [self.put(term, stands) for term in (side, partner)]
        if heads[0] == heads[1]:
            return len(self.web.heads) > many
        terms = {leaf: self.firsts.terms[self.heads[stands[leaf]]] for leaf in stands}
        one, other = with_leaves(side, terms), with_leaves(partner, terms)
        parts = (("term", one),) if name in NO_RULES else tuple([(leaf[1], terms[leaf]) for leaf in terms])
        return self.classes.join_heads(heads[0], heads[1], (one, other, (name, way, parts)))

    def put(self, side, stands):
        """Puts a side with first terms put in: the head of its class."""
        # They lie in their classes already, so their nodes need not be put again.
        def put_part(part, inner):
            if is_open_leaf(part):
                return self.web.heads[self.heads[stands[part]]]
            return self.web.put_part(part, inner)

        self.classes.kept = {}
        return bottom_up(side, parts_of, put_part)


class Grown:
    """A Classes that rounds have changed, with the class of a term, and what rounds there were."""

    def __init__(self, classes, place, rounds, cut, still):
        self.classes = fixed(classes)
        self.place = fixed(place)
        self.rounds = fixed(rounds)
        self.cut = fixed(cut)
        self.still = fixed(still)

    def __eq__(self, other):
        if not isinstance(other, Grown) or self.classes != other.classes or self.place != other.place:
            return False
        return self.rounds == other.rounds and self.cut == other.cut and self.still == other.still


def grown(term, shelf, rounds, most):
    """The Grown of a term: as many rounds as told, unless one is cut or still."""
    whole = checked_term(term, "term")
    check_shelf(shelf)
    if not is_within(rounds, 0, MOST_ROUNDS):
        raise BadNumber("rounds")
    check_most(most)
    if unfit(shelf.program.functions, whole) is not None:
        raise Misfit("term")
    if many_parts(whole) > MOST_SIZE:
        raise TooMany("size", MOST_SIZE)
    if many_levels(whole) > MOST_LEVELS:
        raise TooMany("levels", MOST_LEVELS)
    classes = Classes()
    classes.put(whole)
    done, cut, still = 0, False, False
    while done < rounds and not cut and not still:
        _, cut, still = _done(classes, shelf, most)
        done += 0 if cut else 1
    return Grown(classes, classes.class_of(whole), done, cut, still)
