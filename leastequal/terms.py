"""Terms: what they are, what they have, and how parts are exchanged."""

from leastequal.checks import are_integers, pairs_of
from leastequal.errors import BadInput, BadNumber, Misfit
from leastequal.forms import checked_term, kind_of, many_levels, many_parts, parts_of, spellings_in, term_of
from leastequal.patterns import with_leaves
from leastequal.places import exchanged, parts_on
from leastequal.spellings import is_spelling


def is_term(value):
    """Whether any value is a term."""
    return term_of(value) is not None


def is_word(term):
    """Whether a term is a word term."""
    return kind_of(checked_term(term, "term")) == "word"


def size_of(term):
    """The number of the leaves and labels of a term."""
    return many_parts(checked_term(term, "term"))


def levels_of(term):
    """The number of the levels of a term."""
    return many_levels(checked_term(term, "term"))


def names_in(term):
    """The spellings of the names of a term, ascending."""
    return spellings_in(checked_term(term, "term"), "name")


def flags_in(term):
    """The spellings of the flags of a term, ascending."""
    return spellings_in(checked_term(term, "term"), "flag")


def places_of(term):
    """All places in a term, ascending."""
    places = []
    waiting = [((), checked_term(term, "term"))]
    while waiting:
        place, part = waiting.pop()
        places.append(place)
        inner = [((*place, index), one) for index, one in enumerate(parts_of(part))]
        waiting.extend(inner[::-1])
    return tuple(places)


def put_in(term, values):
    """The term with terms in the place of names and flags, all at once."""
    whole = checked_term(term, "term")
    stands = _stands_of(values)
    return with_leaves(whole, stands)


def _stands_of(values):
    """What stands for which leaf: BadInput for what tells no terms for spellings."""
    pairs = pairs_of(values)
    if pairs is None:
        raise BadInput("values")
    stands = {}
    for spelling, value in pairs:
        term = term_of(value)
        if term is None or not is_spelling(spelling):
            raise BadInput("values")
        leaf = "name" if kind_of(term) == "word" else "flag"
        stands[(leaf, spelling)] = term
    return stands


def part_at(term, place):
    """The part of a term at a place."""
    whole = checked_term(term, "term")
    _check_place(place)
    return _passed(whole, place)[-1]


def with_part(term, place, other):
    """The term with another one at a place."""
    whole = checked_term(term, "term")
    _check_place(place)
    made = checked_term(other, "other")
    passed = _passed(whole, place)
    if kind_of(passed[-1]) != kind_of(made):
        raise Misfit("kind")
    return exchanged(passed, place, made)


def _check_place(place):
    if not are_integers(place, 0, None):
        raise BadNumber("place")


def _passed(term, place):
    """The parts on the way from a term to the one at a place."""
    passed = parts_on(term, place)
    if passed is None:
        raise Misfit("place")
    return passed
