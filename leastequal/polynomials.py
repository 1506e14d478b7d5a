"""Sum terms, the polynomials that they are, and where two of them part."""

from leastequal.binomials import many_binomials, parting_of
from leastequal.checks import is_within
from leastequal.errors import BadNumber, BadTerm, TooMany
from leastequal.forms import checked_term, spellings_in, term_of
from leastequal.program import MOST_LEAST
from leastequal.sums import MOST_SPREAD, is_sum, polynomial_of, spread_of, summed
from leastequal.words import check_width

MOST_BINOMIALS = 5000


def is_sum_term(term):
    """Whether a term is a sum term."""
    return is_sum(checked_term(term, "term"))


def polynomial(term):
    """The polynomial of a sum term: the pairs of a product of names and how often it is taken, ascending."""
    whole = _checked_sum(term, "term")
    _check_spread(whole)
    found = polynomial_of(whole, _spelling)
    return tuple([(product, found[product]) for product in sorted(found)])


def alike_at(one, other, width):
    """Whether two sum terms have the same value at a width, for all words."""
    left = _checked_sum(one, "one")
    right = _checked_sum(other, "other")
    check_width(width)
    difference = _difference(left, right)
    return not difference or width < parting_of(difference, _names_of(left, right), 1)[0]


def parting(one, other, least=1):
    """The least width and words at which two sum terms have unlike values; None if they are one polynomial."""
    left = _checked_sum(one, "one")
    right = _checked_sum(other, "other")
    if not is_within(least, 1, MOST_LEAST):
        raise BadNumber("least")
    difference = _difference(left, right)
    return parting_of(difference, _names_of(left, right), least) if difference else None


def _checked_sum(value, part):
    term = term_of(value)
    if term is None or not is_sum(term):
        raise BadTerm(part)
    return term


def _check_spread(term):
    if spread_of(term) > MOST_SPREAD:
        raise TooMany("monomials", MOST_SPREAD)


def _spelling(leaf):
    return leaf[1]


def _names_of(one, other):
    return sorted(set(spellings_in(one, "name") + spellings_in(other, "name")))


def _difference(one, other):
    """The polynomial of the difference of two sum terms."""
    _check_spread(one)
    _check_spread(other)
    found = summed(polynomial_of(one, _spelling), polynomial_of(other, _spelling), -1)
    if many_binomials(found) > MOST_BINOMIALS:
        raise TooMany("binomials", MOST_BINOMIALS)
    return found
