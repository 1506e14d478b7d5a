"""Values of one class are equal exactly if their attributes are, and equal to no value of another class."""

import itertools
import unittest

from helpers import STRANGE, X, Y, number
from leastequal import errors
from leastequal.classes import Classes
from leastequal.costs import Both, Depth, Needs, Weights
from leastequal.leads import Lead
from leastequal.papers import Denial, Paper
from leastequal.program import Function, Program
from leastequal.rounds import Grown, grown
from leastequal.rules import Book, Rule
from leastequal.runs import Run
from leastequal.shelves import Shelf
from test_errors import FIELDS

UP, TWO = Function("up", ["i"], [("add", ("name", "i"), number(1))]), Function("two", ["i"], [("add", ("name", "i"), number(2))])
ZERO, DOUBLE = Rule("zero", ("add", X, number(0)), X, 1), Rule("double", ("add", X, X), ("shl 1", X), 2)
PROGRAM, EMPTY = Program(1, 3, [UP, TWO], [], []), Program(1, 3, [], [], [])
BOOK = Book(1, [ZERO, DOUBLE])
LEAD = Lead("double", "up", "two", [("shl 1", ("name", "i"))])
# Classes of the interface, by how they are made: arguments, and for each of them another one that may stand there, too.
MADE = [
    (Function, ("up", ["i"], [number(2)]), ("down", [], [number(1)])),
    (Program, (1, 0, [], ["a"], [("ask", "b")]), (2, 1, [UP], [], [])),
    (Run, ("done", [("a", 1)], [], [2], 3), ("short", [], [(1, 1)], [], 4)),
    (Rule, ("zero", ("add", X, number(0)), X, 1), ("none", ("sub", X, number(0)), number(0), 1)),
    (Rule, ("swap", ("add", X, Y), ("add", Y, X), 1), ("swap", ("add", X, Y), ("add", Y, X), 2)),
    (Book, (1, [ZERO]), (2, [ZERO, DOUBLE])),
    (Lead, ("double", "up", "two", [X]), ("other", "two", "up", [Y])),
    (Shelf, (PROGRAM, BOOK, []), (EMPTY, Book(1, []), [])),
    (Shelf, (PROGRAM, BOOK, []), (PROGRAM, BOOK, [LEAD])),
    (Weights, ({"add": 2}, 1), ({"add": 3}, 2)),
    (Depth, ({"add": 2}, 1), ({}, 2)),
    (Needs, (), ()),
    (Both, (Weights({}, 1), Needs()), (Weights({}, 2), Weights({}, 1))),
    (Grown, (Classes(), 2, 3, False, True), (4, 0, 0, True, False)),
    (Paper, ("word", 1, [2]), ("other", 2, [1])),
    (Denial, ("word", 1, [2]), ("other", 2, [1])),
    (errors.EqualError, (), ()),
    *[(getattr(errors, word), ("one", "two")[:len(fields)], ("two", [1])[:len(fields)]) for word, fields in FIELDS.items()],
]


class TestEquality(unittest.TestCase):
    def are_equal(self, one, other, wanted):
        self.assertIs(one == other, wanted)
        self.assertIs(one != other, not wanted)

    def test_each_attribute(self):
        for kind, first, others in MADE:
            one = kind(*first)
            self.are_equal(one, kind(*first), True)
            for index in range(len(first)):
                bent = (*first[:index], others[index], *first[index + 1:])
                self.are_equal(one, kind(*bent), others[index] == first[index])

    def test_other_classes(self):
        values = [kind(*first) for kind, first, _ in MADE]
        for one, other in itertools.combinations(values, 2):
            if type(one) is not type(other):
                self.are_equal(one, other, False)
                self.are_equal(other, one, False)
        for one in values:
            for other in STRANGE + [0, 1, (), "one", ("one",), type(one)]:
                self.are_equal(one, other, False)

    def test_grown_again(self):
        shelf = Shelf(EMPTY, BOOK, [])
        term = ("add", ("add", X, number(0)), X)
        told = grown(term, shelf, 4, 50)
        self.are_equal(told, grown(term, shelf, 4, 50), True)
        self.are_equal(told, grown(term, shelf, 0, 50), False)
        self.are_equal(told, Grown(told.classes.copy(), told.place, told.rounds, told.cut, told.still), True)
        told.classes.put(Y)
        self.are_equal(told, grown(term, shelf, 4, 50), False)

    def test_lists_and_tuples(self):
        self.are_equal(Grown([1, [2]], 0, 0, 0, 0), Grown((1, (2,)), 0, 0, 0, 0), True)
        self.are_equal(Run("done", [["a", 1]], [], [], 0), Run("done", (("a", 1),), (), (), 0), True)


if __name__ == "__main__":
    unittest.main()
