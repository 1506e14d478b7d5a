"""Programs whose terms are exchanged for cheapest ones."""

from leastequal.chains import chain
from leastequal.cheapest import cheapest
from leastequal.checks import is_within
from leastequal.costs import check_cost
from leastequal.errors import BadNumber
from leastequal.papers import Paper
from leastequal.program import check_program, terms_of, with_terms
from leastequal.rounds import MOST_ROUNDS, check_most, grown
from leastequal.rules import check_book
from leastequal.shelves import Shelf, check_leads


class Better(Paper):
    """A program that runs as another one does, and for each term of this one what shows what it became."""

    def __init__(self, program, turned):
        Paper.__init__(self, "better", program, turned)
        self.program = self.parts[0]
        self.turned = self.parts[1]


class Growth:
    """A term of a program, with its shelf, its classes behind the rounds, and the Cheapest of its class."""

    def __init__(self, term, shelf, rounds, most, cost):
        told = grown(term, shelf, rounds, most)
        self.old = term
        self.shelf = shelf
        self.classes = told.classes
        self.many_rounds = told.rounds
        self.best = cheapest(told.classes, told.place, cost)
        self.price = [worth for place, worth in self.best.floors if place == told.place][0]


def better(program, book, leads, rounds, most, cost):
    """The Better of a program by a book, leads, and rounds."""
    turned = []
    for one in growths_of(program, book, leads, rounds, most, cost):
        turned.append((one.old, one.best.term, one.price, one.many_rounds, chain(one.classes, one.old, one.best.term)))
    return Better(with_terms(program, [row[1] for row in turned]), turned)


def growths_of(program, book, leads, rounds, most, cost):
    """The Growths of the terms of a program, in their order."""
    check_program(program)
    check_book(book)
    check_leads(leads)
    if not is_within(rounds, 0, MOST_ROUNDS):
        raise BadNumber("rounds")
    check_most(most)
    check_cost(cost)
    shelf = Shelf(program, book, leads)
    shelves = []
    for index, function in enumerate(program.functions):
        # No result may come to call its own function or one behind it.
        shelves.extend([shelf.before(index)] * len(function.results))
    terms = terms_of(program)
    shelves.extend([shelf] * (len(terms) - len(shelves)))
    return [Growth(term, its, rounds, most, cost) for term, its in zip(terms, shelves)]
