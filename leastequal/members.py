"""The members of classes."""

from leastequal.checks import is_within
from leastequal.classes import check_classes
from leastequal.counts import Counts, inner_of, places_below
from leastequal.errors import BadNumber, Misfit, TooMany
from leastequal.forms import checked_term, many_parts, parts_of
from leastequal.papers import Denial, Paper
from leastequal.twins import Twins
from leastequal.walks import bottom_up

MOST_SIZE = 30
MOST_PARTING_SIZE = 2000


class SameMembers(Paper):
    """Two classes have the same members: the pairs of classes in which a term lies, None for none."""

    def __init__(self, pairs):
        Paper.__init__(self, "samemembers", pairs)
        self.pairs = self.parts[0]


class Parting(Denial):
    """Two classes have not the same members: a term that is a member of just one of them."""

    def __init__(self, term):
        Denial.__init__(self, "parting", term)
        self.term = self.parts[0]


def many_members(classes, place, size):
    """How many members of a size a class has."""
    check_classes(classes, "classes")
    classes.head_at(place)
    _check_size(size)
    return _counts_of(classes, place).many_of(place, size)


def _check_size(size):
    if not is_within(size, 1, MOST_SIZE):
        raise BadNumber("size")


def _counts_of(classes, place):
    """The Counts of a class, which is kept until the classes change."""
    if ("counts", place) not in classes.kept:
        classes.kept[("counts", place)] = Counts(classes, place)
    return classes.kept[("counts", place)]


def is_endless(classes, place):
    """Whether there is no end of the members of a class."""
    check_classes(classes, "classes")
    classes.head_at(place)
    return places_below(classes, place) is None


def all_members(classes, place):
    """How many members a class has."""
    check_classes(classes, "classes")
    classes.head_at(place)
    places = places_below(classes, place)
    if places is None:
        raise Misfit("endless")
    totals = {}
    for one in places:
        totals[one] = sum([_times([totals[part] for part in inner_of(row)]) for row in classes.nodes(one)])
    return totals[place]


def _times(numbers):
    made = 1
    for number in numbers:
        made *= number
    return made


def member_at(classes, place, size, index):
    """The member of a class of a size at an index."""
    check_classes(classes, "classes")
    classes.head_at(place)
    _check_size(size)
    counts = _counts_of(classes, place)
    if not is_within(index, 0, counts.many_of(place, size) - 1):
        raise BadNumber("index")
    return counts.member(place, size, index)


def index_of(classes, place, term):
    """The size and the index of a member of a class."""
    check_classes(classes, "classes")
    classes.head_at(place)
    whole = checked_term(term, "term")
    if classes.class_of(whole) != place:
        raise Misfit("term")
    if many_parts(whole) > MOST_SIZE:
        raise TooMany("size", MOST_SIZE)
    counts = _counts_of(classes, place)

    def told(part, inner):
        row = (part[0], *[one for one, _ in inner]) if inner else part
        home = classes.class_of_node(row)
        return home, counts.index_by(home, row, [pair for _, pair in inner])

    return bottom_up(whole, parts_of, told)[1]


def same_members(classes, place, other, its):
    """The SameMembers of two classes of two Classes, or a Parting of the least size."""
    check_classes(classes, "classes")
    classes.head_at(place)
    check_classes(other, "other")
    other.head_at(its)
    twins = Twins(classes, other)
    pair = twins.next_pair()
    while pair is not None:
        if (pair[0] == place) != (pair[1] == its):
            if twins.rows[pair][0] > MOST_PARTING_SIZE:
                raise TooMany("size", MOST_PARTING_SIZE)
            return Parting(twins.term_for(pair))
        pair = twins.next_pair()
    return SameMembers(list(twins.rows))
