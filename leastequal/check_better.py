"""Looking at papers that tell a better program."""

from leastequal.better import Better, growths_of
from leastequal.check_chains import shows_chain
from leastequal.check_cheapest import is_worth
from leastequal.checks import is_integer
from leastequal.costs import cost_of
from leastequal.forms import kind_of, term_of
from leastequal.program import Program, terms_of, with_terms


def shows_better(program, book, leads, rounds, most, cost, value):
    """Whether a value is a right Better of a program."""
    growths = growths_of(program, book, leads, rounds, most, cost)
    if not isinstance(value, Better) or not isinstance(value.turned, tuple) or len(value.turned) != len(growths):
        return False
    if not all([_is_turned(growth, row, cost) for growth, row in zip(growths, value.turned)]):
        return False
    return _is_program_with(program, tuple([term_of(row[1]) for row in value.turned]), value.program)


def _is_turned(growth, row, cost):
    """Whether a value tells what a term of a program became."""
    if not isinstance(row, tuple) or len(row) != 5:
        return False
    old, new, price, done, links = row
    if term_of(old) != growth.old or term_of(new) is None or kind_of(new) != kind_of(growth.old):
        return False
    if not is_worth(price, cost) or price != growth.price or price != cost_of(new, cost):
        return False
    return is_integer(done) and done == growth.many_rounds and shows_chain(growth.shelf, old, new, links)


def _is_program_with(program, terms, value):
    """Whether a value is the program with these terms, which need not be such that a program may have them."""
    if not isinstance(value, Program) or terms_of(value) != terms:
        return False
    return _bare(value) == _bare(program)


def _bare(program):
    """A program with the least terms in the place of its own."""
    kinds = [kind_of(term) for term in terms_of(program)]
    return with_terms(program, [("number", 0) if kind == "word" else ("true",) for kind in kinds])
