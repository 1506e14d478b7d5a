"""Shelves."""

import unittest

from helpers import STRANGE, X, Raises, number
from leastequal.errors import BadBook, BadLead, BadNumber, BadProgram, Impossible, Misfit, NoFunction, NoRule, Twice
from leastequal.leads import Lead, led
from leastequal.program import Function, Program
from leastequal.rules import Book, Rule
from leastequal.shelves import Shelf
from leastequal.term_texts import read_term


def function(spelling, parameters, *results):
    return Function(spelling, parameters.split(), [read_term(result) for result in results])


UP = function("up", "i", "( add i 1 )")
TWO = function("two", "t", "( add t 2 )")
PAIR = function("pair", "a b", "( add a 1 )", "( add ( call two 0 b ) a )")
TOP = function("top", "x", "( loop up 0 3 x )")
PROGRAM = Program(3, 5, [UP, TWO, PAIR, TOP], ["n"], [])
BOOK = Book(2, [Rule("plus", read_term("( add x 0 )"), X, 1), Rule("swap", read_term("( add x y )"), read_term("( add y x )"), 2)])
DOUBLE = Lead("double", "up", "two", [read_term("( shl 1 i )")])
DROP = Lead("drop", "pair", "up", [read_term("a")])
SAME = Lead("same", "up", "up", [read_term("i")])
NAMES = [
    "plus", "swap", "call up 0", "call two 0", "call pair 0", "call pair 1", "call top 0", "lead drop 0", "lead same 0", "lead double 0",
]


def names(shelf):
    return [rule.name for rule in shelf.rules]


class TestShelf(Raises, unittest.TestCase):
    def test_keeps(self):
        leads = [DROP, SAME, DOUBLE]
        shelf = Shelf(PROGRAM, BOOK, leads)
        leads.pop()
        self.assertEqual(names(shelf), NAMES)
        self.assertIsInstance(shelf.rules, tuple)
        self.assertTrue(shelf.program == PROGRAM and shelf.book == BOOK and shelf.leads == (DROP, SAME, DOUBLE))
        self.assertEqual(shelf.rules[:2], BOOK.rules)
        self.assertEqual(names(Shelf(leads=[], book=Book(3, []), program=Program(3, 0, [], [], []))), [])

    def test_parameters(self):
        for bad in STRANGE + [5, BOOK]:
            self.check_part(BadProgram, "program", Shelf, bad, bad, bad)
        for bad in STRANGE + [5, PROGRAM, list(BOOK.rules)]:
            self.check_part(BadBook, "book", Shelf, PROGRAM, bad, bad)
        for bad in STRANGE + [5, DOUBLE, [DOUBLE, 5], [None], {DOUBLE.name: DOUBLE}, [SAME] * 7]:
            self.check_part(BadLead, "leads", Shelf, PROGRAM, Book(8, []), bad)

    def test_leads(self):
        six = [Lead(f"l{index}", "up", "up", [read_term("i")]) for index in range(6)]
        self.assertEqual(names(Shelf(PROGRAM, BOOK, six))[-6:], [f"lead l{index} 0" for index in range(6)])
        wrong = Lead("wrong", "up", "two", [read_term("i")])
        self.check(Twice, {"value": "wrong"}, Shelf, PROGRAM, Book(8, []), [wrong, SAME, Lead("wrong", "gone", "up", [X]), SAME])
        with self.assertRaises(Impossible) as caught:
            Shelf(PROGRAM, BOOK, [SAME, wrong, Lead("gone", "gone", "up", [X])])
        self.assertEqual(caught.exception.paper, led(PROGRAM, wrong))
        self.check(NoFunction, {"value": "gone"}, Shelf, PROGRAM, BOOK, [SAME, Lead("gone", "gone", "up", [X]), wrong])
        self.check_part(Misfit, "terms", Shelf, PROGRAM, BOOK, [Lead("less", "up", "up", [X]), wrong])

    def test_least(self):
        for least in (1, 2, 3):
            self.assertEqual(Shelf(PROGRAM, Book(least, []), []).book.least, least)
        self.check_part(Misfit, "least", Shelf, PROGRAM, Book(4, []), [Lead("gone", "gone", "up", [X])])

    def test_rule(self):
        shelf = Shelf(PROGRAM, BOOK, [DOUBLE])
        for rule in shelf.rules:
            self.assertTrue(shelf.rule(rule.name) == rule)
        self.assertTrue(shelf.rule(name="swap") == BOOK.rules[1])
        for value in STRANGE + [5, "", "Plus", "fold", "turn", "call up 1", "lead same 0", ["plus"], ("plus",), {"plus": 1}, BOOK.rules[0]]:
            self.check(NoRule, {"value": value}, shelf.rule, value)

    def test_equality(self):
        shelf = Shelf(PROGRAM, BOOK, [DOUBLE, SAME])
        self.assertTrue(shelf == Shelf(PROGRAM, BOOK, (DOUBLE, SAME)))
        others = [
            Shelf(Program(3, 6, [UP, TWO, PAIR, TOP], ["n"], []), BOOK, [DOUBLE, SAME]), Shelf(PROGRAM, Book(1, BOOK.rules), [DOUBLE, SAME]),
            Shelf(PROGRAM, BOOK, [SAME, DOUBLE]), Shelf(PROGRAM, BOOK, [DOUBLE]), shelf.before(3), 5, None, BOOK,
        ]
        self.assertFalse(any(shelf == other for other in others))

    def test_a_lead_without_rules(self):
        program = Program(3, 5, [UP, function("rest", "t", "t")], [], [])
        still = Lead("still", "up", "rest", [number(5)])
        self.assertEqual(Shelf(program, BOOK, [still]).rules, Shelf(program, BOOK, []).rules)
        self.assertFalse(Shelf(program, BOOK, [still]) == Shelf(program, BOOK, []))


class TestBefore(Raises, unittest.TestCase):
    def test_each_index(self):
        shelf = Shelf(PROGRAM, BOOK, [DROP, SAME, DOUBLE])
        wanted = {
            0: ["plus", "swap"], 1: ["plus", "swap", "call up 0", "lead same 0"],
            2: ["plus", "swap", "call up 0", "call two 0", "lead same 0", "lead double 0"],
            3: [one for one in NAMES if one != "call top 0"], 4: NAMES,
        }
        for index, told in wanted.items():
            found = shelf.before(index)
            self.assertEqual(names(found), told)
            self.assertIs(type(found), Shelf)
            self.assertTrue(found.program == PROGRAM and found.book == BOOK and found.leads == shelf.leads)
            self.assertIs(found == shelf, index == 4)
            self.assertTrue(all(found.rule(one) == shelf.rule(one) for one in told))
        self.assertEqual(names(shelf), NAMES)
        self.check(NoRule, {"value": "call up 0"}, shelf.before(0).rule, "call up 0")

    def test_again(self):
        shelf = Shelf(PROGRAM, BOOK, [DROP, SAME, DOUBLE])
        self.assertTrue(shelf.before(3).before(1) == shelf.before(1))
        self.assertEqual(names(shelf.before(1).before(4)), names(shelf.before(1)))

    def test_what_names_a_function(self):
        # The rule of pair 1 names two at its right, deep; the leads name both of their functions.
        late = Program(3, 5, [PAIR.__class__("one", ["a"], [read_term("a")]), UP, function("late", "a", "( neg ( neg ( call one 0 a ) ) )")], [], [])
        shelf = Shelf(late, BOOK, [Lead("in", "one", "one", [read_term("( neg a )")])])
        self.assertEqual(names(shelf.before(1)), ["plus", "swap", "call one 0", "lead in 0"])
        self.assertEqual(names(shelf.before(2)), ["plus", "swap", "call one 0", "call up 0", "lead in 0"])
        # A function of which no rule is left may still be named: its result has a size above 200.
        great = Function("great", ["a"], [read_term("( add " * 11 + "a" + " a )" * 11)])
        self.assertEqual(names(Shelf(Program(3, 5, [great], [], []), BOOK, []).before(0)), ["plus", "swap"])

    def test_errors(self):
        shelf = Shelf(PROGRAM, BOOK, [])
        for bad in STRANGE + [-1, 5, "0", number(0)]:
            self.check_part(BadNumber, "index", shelf.before, bad)
        self.check_part(BadNumber, "index", shelf.before(0).before, index=5)


if __name__ == "__main__":
    unittest.main()
