"""Looking at papers that tell a better program."""

import random
import unittest

from helpers import STRANGE, TRUE, X, Y, Raises, as_lists, name, number
from leastequal.better import Better, better
from leastequal.chains import Chain, Link, Step, Use, chain
from leastequal.check_better import shows_better
from leastequal.costs import Both, Depth, Needs, Weights
from leastequal.errors import BadBook, BadCost, BadLead, BadNumber, BadProgram, Impossible, Misfit, TooMany, Twice
from leastequal.leads import Lead, led
from leastequal.library import library
from leastequal.papers import Denial, Paper
from leastequal.program import Function, Program, with_terms
from leastequal.rounds import grown
from leastequal.rules import Book, Rule
from leastequal.shelves import Shelf
from slow_rules import balanced
from test_better import COSTS, DOUBLE, DOUBLES, EMPTY, LIBRARY, ONES, TWOS, UP, Arguments, tell
from test_made import drawn_program

A, B = name("a"), name("b")
ONE, ZERO = number(1), number(0)
PROGRAM = Program(1, 3, [Function("f", ["a"], [("add", A, ZERO)])], ["a"], [("tell", ("add", A, A)), ("put", A, ("add", B, ("add", A, ZERO))), ("while", ("lt", A, ("add", ONE, ONE)), [("ask", "a")])])
ARGUMENTS = (PROGRAM, DOUBLES, [], 2, 100, ONES)


class TestShown(Raises, unittest.TestCase):
    def test_what_is_told_is_shown(self):
        rng = random.Random(1)
        for index in range(15):
            program = drawn_program(rng, 7)
            arguments = (program, LIBRARY, [], rng.randint(0, 3), 60, COSTS[index % len(COSTS)])
            self.assertIs(shows_better(*arguments, better(*arguments)), True)
        program = Program(1, 50, [UP, TWOS], ["n"], [("tell", ("shl 1", ("loop up 0", name("n"), ONE)))])
        arguments = (program, EMPTY, [DOUBLE], 3, 300, Weights({"shl": 9}, 1))
        self.assertIs(shows_better(*arguments, better(*arguments)), True)
        self.assertIs(shows_better(value=better(*arguments), cost=arguments[5], most=300, rounds=3, leads=(DOUBLE,), book=EMPTY, program=program), True)


class TestBent(Raises, unittest.TestCase):
    def setUp(self):
        self.value = better(*ARGUMENTS)
        self.rows = list(self.value.turned)
        self.assertEqual([row[1] for row in self.rows], [A, ("shl 1", A), A, ("add", A, B) if ("add", A, B) in [row[1] for row in self.rows] else ("add", B, A), ("lt", A, number(2))])

    def look(self, rows, wanted, program=None):
        if program is None:
            program = with_terms(PROGRAM, [row[1] for row in rows])
        self.assertIs(shows_better(*ARGUMENTS, Better(program, rows)), wanted)

    def with_row(self, index, **bent):
        row = dict(zip(("old", "new", "price", "done", "chain"), self.rows[index]))
        return [*self.rows[:index], tuple({**row, **bent}.values()), *self.rows[index + 1:]]

    def test_right_forms(self):
        self.look(self.rows, True)
        self.look(as_lists(self.rows), True)
        self.look([list(row) for row in self.rows], True)

    def test_another_member_as_cheap(self):
        box = grown(self.rows[3][0], Shelf(PROGRAM, DOUBLES, []), 2, 100)
        for one in (("add", A, B), ("add", B, A)):
            links = chain(box.classes, self.rows[3][0], one)
            self.look(self.with_row(3, new=one, chain=links), True)
            self.look(self.with_row(3, new=one), one == self.rows[3][1])
        dear = ("add", B, ("add", A, ZERO))
        self.look(self.with_row(3, new=dear, chain=chain(box.classes, dear, dear)), False)
        self.look(self.with_row(3, new=dear, price=5, chain=chain(box.classes, dear, dear)), False)

    def test_other_chains(self):
        old, new, _, _, links = self.rows[1]
        self.assertEqual((old, new), (("add", A, A), ("shl 1", A)))
        step = Step("double", 1, (), [("x", A)])
        back = Step("double", -1, (), [("x", A)])
        zero, away = Step("zero", -1, (1,), [("x", A)]), Step("zero", 1, (1,), [("x", A)])
        link = Link(old, new, [step])
        for right in (Chain([link]), Chain([Link(old, new, [step, back, step])]), Chain([Link(old, new, [zero, away, step])]), Chain([link, Link(old, new, [Use(0, 1, ())])]), Chain([Link(X, X, []), link]), Chain([Link(as_lists(old), as_lists(new), [step])])):
            self.look(self.with_row(1, chain=right), True)
        for wrong in (
            Chain([Link(new, old, [back])]), Chain([Link(old, new, [])]), Chain([Link(old, new, [step, step])]), Chain([Link(old, new, [back])]), Chain([link, Link(new, old, [back])]), Chain([Link(old, new, [Step("swap", 1, (), [("x", A), ("y", A)])])]),
            Chain([Link(old, old, [])]), Chain([Link(new, new, [])]), Chain([Link(old, new, [Step("gone", 1, (), [("x", A)])])]), Chain([]), [link], link, step, links.links, Paper("chain", links.links), *STRANGE, self.rows[0][4],
        ):
            self.look(self.with_row(1, chain=wrong), False)

    def test_chains_go_by_the_shelf_of_the_term(self):
        # The result of f goes by what stands before f: the rule of a call of f is no rule there.
        program = Program(1, 3, [Function("f", ["a"], [A])], ["a"], [("tell", ("call f 0", A))])
        arguments = (program, EMPTY, [], 1, 50, ONES)
        value = better(*arguments)
        self.assertEqual([row[1] for row in value.turned], [A, A])
        there, back = Step("call f 0", -1, (), [("a", A)]), Step("call f 0", 1, (), [("a", A)])
        rows = [list(row) for row in value.turned]
        rows[0][4] = Chain([Link(A, A, [there, back])])
        self.assertIs(shows_better(*arguments, Better(value.program, rows)), False)
        rows = [list(row) for row in value.turned]
        rows[1][4] = Chain([Link(("call f 0", A), A, [back, there, back])])
        self.assertIs(shows_better(*arguments, Better(value.program, rows)), True)

    def test_olds_and_news(self):
        for index in range(5):
            for bad in [*STRANGE, 5, (), B, TRUE, ("add", A), ("add", A, A, A)]:
                if bad != self.rows[index][0]:
                    self.look(self.with_row(index, old=bad), False, self.value.program)
                if bad != self.rows[index][1]:
                    self.look(self.with_row(index, new=bad), False, self.value.program)
        self.look(self.with_row(4, new=("eq", A, ONE)), False, self.value.program)
        self.look(self.with_row(1, old=self.rows[1][1]), False)

    def test_prices_and_rounds(self):
        for index in range(5):
            for part, right in (("price", self.rows[index][2]), ("done", self.rows[index][3])):
                for bad in [*STRANGE, right + 1, right - 1, str(right), (right,), float(right), -right, None]:
                    self.look(self.with_row(index, **{part: bad}), False)
        one = self.with_row(0, price=True)
        self.assertEqual(self.rows[0][2], 1)
        self.look(one, False)
        self.look(self.with_row(0, done=True), False)

    def test_rows(self):
        for index in range(5):
            self.look(self.rows[:index] + self.rows[index + 1:], False, self.value.program)
            self.look(self.rows[:index] + [self.rows[index]] + self.rows[index:], False, self.value.program)
            for bad in [*STRANGE, 5, (), self.rows[index][:4], (*self.rows[index], 1), "abcde", self.rows[index][::-1]]:
                self.look([*self.rows[:index], bad, *self.rows[index + 1:]], False, self.value.program)
        for one, other in ((0, 1), (1, 3), (0, 4)):
            moved = list(self.rows)
            moved[one], moved[other] = moved[other], moved[one]
            self.look(moved, False, self.value.program)
        for bad in [*STRANGE, 5, "abcde", {index: row for index, row in enumerate(self.rows)}, []]:
            self.look(bad, False, self.value.program)

    def test_programs(self):
        news = [row[1] for row in self.rows]
        f = self.value.program.functions
        deeds = self.value.program.deeds
        for bad in [
            *STRANGE, 5, PROGRAM, self.value, with_terms(PROGRAM, [news[0], A, *news[2:]]), Program(2, 3, f, ["a"], deeds), Program(1, 4, f, ["a"], deeds), Program(1, 3, f, ["b"], deeds), Program(1, 3, f, [], deeds), Program(1, 3, [], ["a"], deeds),
            Program(1, 3, [Function("g", ["a"], [A])], ["a"], deeds), Program(1, 3, [Function("f", ["a", "b"], [A])], ["a"], deeds), Program(1, 3, f, ["a"], deeds[:2]), Program(1, 3, f, ["a"], [*deeds, ("ask", "b")]), Program(1, 3, f, ["a"], [("set", "a", deeds[0][1]), *deeds[1:]]),
            Program(1, 3, f, ["a"], [*deeds[:2], ("when", deeds[2][1], deeds[2][2], [])]), Program(1, 3, f, ["a"], [*deeds[:2], ("while", deeds[2][1], [("ask", "b")])]),
        ]:
            self.assertIs(shows_better(*ARGUMENTS, Better(bad, self.rows)), False)
        self.look(self.rows, True, Program(1, 3, f, ["a"], deeds))

    def test_news_that_no_program_may_have(self):
        # Steps from right to left may bring names, flags and calls that a result may not have; with this cost they are as cheap.
        book = Book(1, [Rule("nothing", ("mul", X, ZERO), ZERO, 1), Rule("choice", ("if", ("flag", "p"), X, X), X, 1)])
        program = Program(1, 3, [Function("f", ["a"], [ZERO])], ["a"], [("tell", ZERO)])
        free = Depth([], 0)
        arguments = (program, book, [], 0, 10, free)
        value = better(*arguments)
        self.assertIs(shows_better(*arguments, value), True)
        for new, step in ((("mul", B, ZERO), Step("nothing", -1, (), [("x", B)])), (("mul", ("call f 0", A), ZERO), Step("nothing", -1, (), [("x", ("call f 0", A))])), (("if", ("flag", "p"), ZERO, ZERO), Step("choice", -1, (), [("p", ("flag", "p")), ("x", ZERO)])), (("mul", ("call gone 0",), ZERO), Step("nothing", -1, (), [("x", ("call gone 0",))]))):
            for index in (0, 1):
                rows = [list(row) for row in value.turned]
                rows[index] = [ZERO, new, 0, 0, Chain([Link(ZERO, new, [step])])]
                self.assertIs(shows_better(*arguments, Better(program, rows)), False)
        # A name is right in a deed, and told as it should be.
        rows = [list(row) for row in value.turned]
        new = ("mul", B, ZERO)
        rows[1] = [ZERO, new, 0, 0, Chain([Link(ZERO, new, [Step("nothing", -1, (), [("x", B)])])])]
        self.assertIs(shows_better(*arguments, Better(with_terms(program, [ZERO, new]), rows)), True)

    def test_asked_otherwise(self):
        for rounds, wanted in ((0, False), (1, False), (2, True), (3, True)):
            self.assertIs(shows_better(*ARGUMENTS[:3], rounds, *ARGUMENTS[4:], self.value), wanted, rounds)
        for most, wanted in ((100, True), (1000, True), (1, False)):
            self.assertIs(shows_better(*ARGUMENTS[:4], most, ONES, self.value), wanted)
        for cost, wanted in ((ONES, True), (Weights({"mul": 5}, 1), True), (Weights({"shl": 9}, 1), False), (Weights([], 2), False), (Needs(), False), (Depth([], 1), False), (Both(ONES, Needs()), False)):
            self.assertIs(shows_better(*ARGUMENTS[:5], cost, self.value), wanted)
        self.assertIs(shows_better(PROGRAM, EMPTY, *ARGUMENTS[2:], self.value), False)
        self.assertIs(shows_better(PROGRAM, library(1), *ARGUMENTS[2:], self.value), False)
        self.assertIs(shows_better(with_terms(PROGRAM, [B if row[0] == A else row[0] for row in self.rows]), *ARGUMENTS[1:], self.value), False)

    def test_pairs_of_worths(self):
        arguments = (*ARGUMENTS[:5], Both(ONES, Needs()))
        value = better(*arguments)
        self.assertIs(shows_better(*arguments, value), True)
        for bad in ([2, 1], (2, 1)):
            rows = [list(row) for row in value.turned]
            rows[1][2] = bad
            self.assertIs(shows_better(*arguments, Better(value.program, rows)), True)
        for bad in ((2, True), (2, 2), (2,), 2, (2, 1, 0), "21"):
            rows = [list(row) for row in value.turned]
            rows[1][2] = bad
            self.assertIs(shows_better(*arguments, Better(value.program, rows)), False)

    def test_other_papers(self):
        for value in [*STRANGE, 5, self.value.parts, Paper("better", *self.value.parts), Denial("better", *self.value.parts), Better, PROGRAM, self.value.program]:
            self.assertIs(shows_better(*ARGUMENTS, value), False)


class TestRaised(Arguments, unittest.TestCase):
    """shows_better raises what better raises."""

    def test_parameters(self):
        self.refused(shows_better, (None,))

    def test_what_the_shelf_refuses(self):
        program = tell(A, functions=[UP, TWOS], least=2)
        self.check(Twice, {"value": "double"}, shows_better, program, Book(3, []), [DOUBLE, DOUBLE], 1, 1, ONES, None)
        self.check_part(Misfit, "least", shows_better, program, Book(3, []), [DOUBLE], 1, 1, ONES, None)
        wrong = Lead("wrong", "up", "two", [("name", "i")])
        self.check(Impossible, {"paper": led(program, wrong)}, shows_better, program, Book(2, []), [wrong], 1, 1, ONES, None)

    def test_sizes(self):
        self.check(TooMany, {"what": "size", "most": 200}, shows_better, tell(balanced("add", [A] * 101)), EMPTY, [], 0, 1, ONES, None)
        self.assertIs(shows_better(tell(balanced("add", [A] * 100)), EMPTY, [], 0, 1, ONES, None), False)

    def test_kinds(self):
        self.assertEqual(self.KINDS, (BadProgram, BadBook, BadLead, BadNumber, BadNumber, BadCost))
        self.assertEqual(shows_better(tell(Y), DOUBLES, [], 0, 1, ONES, None), False)


if __name__ == "__main__":
    unittest.main()
