"""Terms: what they are, what they have, and how parts are exchanged."""

from leastequal.checks import are_integers, pairs_of
from leastequal.errors import BadInput, BadNumber, BadTerm, Misfit
from leastequal.forms import checked_term, kind_of, many_levels, many_parts, parts_of, spellings_in, term_of
from leastequal.spellings import is_spelling
from leastequal.walks import bottom_up


def is_term(value):
    """Whether any value is a term."""
    return term_of(value) is not None


def is_word(term):
    """Whether a term is a word term."""
    return kind_of(checked_term(term, "term")) == "word"


def size_of(term):
    """The number of the leaves and labels of a term."""
    return many_parts(checked_term(term, "term"))


def levels_of(term):
    """The number of the levels of a term."""
    return many_levels(checked_term(term, "term"))


def names_in(term):
    """The spellings of the names of a term, ascending."""
    return spellings_in(checked_term(term, "term"), "name")


def flags_in(term):
    """The spellings of the flags of a term, ascending."""
    return spellings_in(checked_term(term, "term"), "flag")


def places_of(term):
    """All places in a term, ascending."""
    places = []
    waiting = [((), checked_term(term, "term"))]
    while waiting:
        place, part = waiting.pop()
        places.append(place)
        inner = [((*place, index), one) for index, one in enumerate(parts_of(part))]
        waiting.extend(inner[::-1])
    return tuple(places)


def put_in(term, values):
    """The term with terms in the place of names and flags, all at once."""
    whole = checked_term(term, "term")
    stands = _stands_of(values)

    def exchanged(part, parts):
        if part[0] in ("name", "flag"):
            return stands.get(part, part)
        return (part[0], *parts) if parts else part

    return bottom_up(whole, parts_of, exchanged)


def _stands_of(values):
    """What stands for which leaf: BadInput for what tells no terms for spellings."""
    pairs = pairs_of(values)
    if pairs is None:
        raise BadInput("values")
    stands = {}
    for spelling, value in pairs:
        term = term_of(value)
        if term is None or not is_spelling(spelling):
            raise BadInput("values")
        leaf = "name" if kind_of(term) == "word" else "flag"
        stands[(leaf, spelling)] = term
    return stands


def part_at(term, place):
    """The part of a term at a place."""
    whole = checked_term(term, "term")
    _check_place(place)
    return _parts_on(whole, place)[-1]


def with_part(term, place, other):
    """The term with another one at a place."""
    whole = checked_term(term, "term")
    _check_place(place)
    made = term_of(other)
    if made is None:
        raise BadTerm("other")
    passed = _parts_on(whole, place)
    if kind_of(passed[-1]) != kind_of(made):
        raise Misfit("kind")
    for part, index in zip(passed[-2::-1], place[::-1]):
        made = (*part[:index + 1], made, *part[index + 2:])
    return made


def _check_place(place):
    if not are_integers(place, 0, None):
        raise BadNumber("place")


def _parts_on(term, place):
    """The parts on the way from a term to the one at a place, both ends among them."""
    passed = [term]
    for index in place:
        parts = parts_of(passed[-1])
        if index >= len(parts):
            raise Misfit("place")
        passed.append(parts[index])
    return passed
