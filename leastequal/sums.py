"""Sum terms: their spread, and the polynomials that they are.

A polynomial is a dict from products to integers, none of them 0. A product is the ascending tuple of its factors, each
as often as it is one; what the factors are, integers or strings, is told by who asks for the polynomial.
"""

from leastequal.forms import parts_as_begun, parts_of
from leastequal.spellings import shift_of
from leastequal.walks import bottom_up

MOST_SPREAD = 1000
SUM_LABELS = ("number", "name", "add", "sub", "neg", "mul")


def is_sum_label(label):
    """Whether a label is one of sum terms."""
    return label in SUM_LABELS or shift_of(label) is not None


def is_sum(term):
    """Whether a term is a sum term."""
    return all([is_sum_label(part[0]) for part in parts_as_begun(term)])


def sum_parts(term):
    """The parts of a term that are reached by a label of sum terms."""
    return parts_of(term) if is_sum_label(term[0]) else ()


def spread_of(term):
    """The spread of a term, what has no label of sum terms taken for a name."""
    return bottom_up(term, sum_parts, _spread)


def _spread(part, spreads):
    if part[0] == "mul":
        return spreads[0] * spreads[1]
    return sum(spreads) if spreads else 1


def polynomial_of(term, factor_of):
    """The polynomial of a term; factor_of tells the factor that a name, or what has no label of sum terms, is."""
    def made(part, inner):
        if inner:
            return _made_of(part[0], inner)
        if part[0] == "number":
            return {(): part[1]} if part[1] != 0 else {}
        return {(factor_of(part),): 1}

    return bottom_up(term, sum_parts, made)


def _made_of(label, inner):
    if label == "add":
        return summed(inner[0], inner[1], 1)
    if label == "sub":
        return summed(inner[0], inner[1], -1)
    if label == "mul":
        return _multiplied(inner[0], inner[1])
    return summed({}, inner[0], -1 if label == "neg" else 1 << shift_of(label))


def summed(one, other, times):
    """The polynomial of one and so many times another one."""
    made = {product: one[product] for product in one}
    for product, many in other.items():
        made[product] = made.get(product, 0) + times * many
    return _without_zeros(made)


def _multiplied(one, other):
    made = {}
    for product, many in one.items():
        for its, times in other.items():
            whole = tuple(sorted(product + its))
            made[whole] = made.get(whole, 0) + many * times
    return _without_zeros(made)


def _without_zeros(polynomial):
    return {product: polynomial[product] for product in polynomial if polynomial[product] != 0}
