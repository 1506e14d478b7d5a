"""Looking at papers that tell whether two classes have the same members."""

from leastequal.checks import are_pairs, is_integer
from leastequal.classes import check_classes
from leastequal.forms import term_of
from leastequal.members import Parting, SameMembers
from leastequal.pairings import Pairing


def shows_same_members(classes, place, other, its, value):
    """Whether a value is a right paper about whether classes of two Classes have the same members."""
    check_classes(classes, "classes")
    classes.head_at(place)
    check_classes(other, "other")
    other.head_at(its)
    if isinstance(value, Parting):
        term = term_of(value.term)
        return term is not None and (classes.class_of(term) == place) != (other.class_of(term) == its)
    if not isinstance(value, SameMembers) or not _are_of(value.pairs, classes.places, other.places):
        return False
    if any([(one == place) != (two == its) for one, two in value.pairs]):
        return False
    return Pairing(classes, other, value.pairs).is_closed()


def _are_of(value, places, others):
    """Whether a value is pairs of one of these classes and one of the others, None for at most one of both."""
    if not are_pairs(value):
        return False
    known = ({place: True for place in places}, {place: True for place in others})
    for pair in value:
        if pair[0] is None and pair[1] is None:
            return False
        if not all([one is None or (is_integer(one) and one in its) for one, its in zip(pair, known)]):
            return False
    return True
