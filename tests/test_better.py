"""Programs whose terms are exchanged for cheapest ones."""

import random
import time
import unittest

from helpers import P, STRANGE, TRUE, X, Y, DrawCalls, Raises, has_no_list, kind, name, number, parts
from leastequal.better import Better, better
from leastequal.chains import Chain, Step, plain_steps
from leastequal.check_better import shows_better
from leastequal.check_chains import shows_chain
from leastequal.cheapest import cheapest
from leastequal.costs import Both, Depth, Needs, Weights, cost_of
from leastequal.errors import BadBook, BadCost, BadLead, BadNumber, BadProgram, Impossible, Misfit, NoFunction, TooMany, Twice
from leastequal.leads import Lead, led
from leastequal.library import library
from leastequal.matching import matched
from leastequal.papers import Denial, Paper
from leastequal.program import Function, Program, terms_of, with_terms
from leastequal.rounds import grown
from leastequal.rules import Book, Rule
from leastequal.runs import run
from leastequal.shelves import Shelf
from leastequal.stepping import Stepping
from leastequal.terms import places_of, size_of
from slow_rules import balanced
from test_made import drawn_program

A, B, N = name("a"), name("b"), name("n")
ONE, ZERO, TWO = number(1), number(0), number(2)
ONES = Weights([], 1)
LIBRARY = library(1)
COSTS = [ONES, Weights({"mul": 9, "shl": 2, "add": 3}, 1), Depth({"mul": 3}, 1), Needs(), Both(ONES, Needs()), Both(Weights({"call": 20, "loop": 50}, 1), Depth([], 1))]
UP = Function("up", ["i"], [("add", name("i"), ONE)])
TWOS = Function("two", ["t"], [("add", name("t"), TWO)])
DOUBLE = Lead("double", "up", "two", [("shl 1", name("i"))])
EMPTY = Book(1, [])
DOUBLES = Book(1, [Rule("double", ("add", X, X), ("shl 1", X), 2), Rule("zero", ("add", X, ZERO), X, 1), Rule("swap", ("add", X, Y), ("add", Y, X), 2)])


def tell(*terms, functions=(), least=1, rounds=3, inputs=("a",)):
    return Program(least, rounds, functions, inputs, [("tell", term) for term in terms])


def shelves_of(program, book, leads):
    """The shelf of each term of a program, in order."""
    shelf = Shelf(program, book, leads)
    found = [shelf.before(index) for index, function in enumerate(program.functions) for _ in function.results]
    return found + [shelf] * (len(terms_of(program)) - len(found))


class TestRows(Raises, unittest.TestCase):
    def look(self, program, book, leads, rounds, most, cost):
        value = better(program, book, leads, rounds, most, cost)
        self.assertIsInstance(value, Better)
        self.assertEqual(len(value.turned), len(terms_of(program)))
        for old, shelf, row in zip(terms_of(program), shelves_of(program, book, leads), value.turned):
            box = grown(old, shelf, rounds, most)
            best = cheapest(box.classes, box.place, cost)
            self.assertEqual(row[:4], (old, best.term, dict(best.floors)[box.place], box.rounds))
            self.assertEqual(cost_of(row[1], cost), row[2])
            self.assertLessEqual(row[2], cost_of(old, cost))
            self.assertIsInstance(row[4], Chain)
            self.assertIs(shows_chain(shelf, old, row[1], row[4]), True)
        self.assertEqual(value.program, with_terms(program, [row[1] for row in value.turned]))
        self.assertIs(shows_better(program, book, leads, rounds, most, cost, value), True)
        return value

    def test_drawn_programs_run_alike(self):
        rng = random.Random(1)
        changed = 0
        for index in range(40):
            program = drawn_program(rng, 8)
            value = self.look(program, LIBRARY, [], rng.choice([1, 2, 3]), rng.choice([20, 60, 200]), COSTS[index % len(COSTS)])
            changed += value.program != program
            for _ in range(4):
                width = rng.choice([program.least, 8, 33, 300])
                inputs = [rng.randint(-3, 9) for _ in program.inputs]
                memory = {rng.randint(0, 5): rng.randint(0, 9) for _ in range(3)}
                replies = [rng.randint(0, 9) for _ in range(rng.randint(0, 3))]
                for fuel in (0, 1, 2, 5, 30):
                    self.assertEqual(run(value.program, width, inputs, memory, replies, fuel), run(program, width, inputs, memory, replies, fuel))
        self.assertGreater(changed, 20)

    def test_form(self):
        program = tell(("add", A, A))
        value = better(program, DOUBLES, [], 1, 10, ONES)
        self.assertEqual((value.word, value.parts), ("better", (value.program, value.turned)))
        self.assertEqual((value.program.deeds, value.turned[0][:4]), ((("tell", ("shl 1", A)),), (("add", A, A), ("shl 1", A), 2, 1)))
        self.assertEqual([step for step in plain_steps(value.turned[0][4])], [Step("double", 1, (), [("x", A)])])
        self.assertEqual(better(cost=ONES, most=10, rounds=1, leads=(), book=DOUBLES, program=program), value)
        self.assertEqual((type(value).__bases__, isinstance(value, Denial), bool(value)), ((Paper,), False, True))
        made = Better(turned=[[1, [2]]], program=program)
        self.assertEqual((made.parts, made.program is program, made.turned), ((program, ((1, (2,)),)), True, ((1, (2,)),)))
        self.assertTrue(has_no_list(value.turned[0][:4]))

    def test_no_rounds(self):
        program = tell(("add", A, ZERO), ("mul", ("add", A, A), TWO))
        value = self.look(program, LIBRARY, [], 0, 1, ONES)
        self.assertEqual((value.program, [row[3] for row in value.turned]), (program, [0, 0]))
        self.assertEqual([row[4].links[-1].steps for row in value.turned], [(), ()])

    def test_rounds_are_counted(self):
        program = tell(("add", ("add", A, A), ("shl 1", A)), A, ("add", A, A))
        rounds = [[row[3] for row in self.look(program, DOUBLES, [], many, 1000, ONES).turned] for many in (1, 2, 8)]
        self.assertEqual(rounds, [[1, 1, 1], [2, 1, 2], [3, 1, 2]])
        # A cut round is not counted.
        self.assertEqual([row[3] for row in self.look(program, DOUBLES, [], 8, 1, ONES).turned], [0, 1, 0])

    def test_terms_in_all_deeds(self):
        twice = ("add", A, A)
        test = ("eq", twice, ("add", B, ZERO))
        deeds = [("set", "b", twice), ("put", twice, ("add", A, ZERO)), ("ask", "a"), ("when", test, [("tell", twice)], [("tell", ("add", ZERO, B))]), ("while", ("lt", twice, ONE), [("set", "a", ("add", twice, ZERO))])]
        program = Program(1, 3, [Function("f", ["a"], [("add", A, ZERO), twice])], ["a"], deeds)
        value = self.look(program, DOUBLES, [], 3, 200, ONES)
        short = ("shl 1", A)
        self.assertEqual(value.program.functions, (Function("f", ["a"], [A, short]),))
        self.assertEqual(value.program.deeds, (
            ("set", "b", short), ("put", short, A), ("ask", "a"), ("when", ("eq", short, B), (("tell", short),), (("tell", B),)), ("while", ("lt", short, ONE), (("set", "a", short),)),
        ))
        self.assertEqual([kind(row[1]) for row in value.turned], [kind(row[0]) for row in value.turned])

    def test_no_member_that_steps_reach_is_cheaper(self):
        rng = random.Random(4)
        rules = [*DOUBLES.rules, Rule("two", ("mul", X, TWO), ("add", X, X), 2), Rule("same", ("if", P, X, X), X, 1), Rule("self", ("eq", X, X), TRUE, 1), Rule("move", ("add", ("add", X, Y), A), ("add", X, ("add", Y, A)), 2)]
        book = Book(1, rules)
        cheaper = 0
        for index in range(30):
            draw = DrawCalls(rng, [A, B, ZERO, ONE, TWO], ["add", "add", "mul", "if", "eq"], [UP])
            program = tell(draw.term("word", 7), functions=[UP])
            cost = COSTS[index % len(COSTS)]
            value = self.look(program, book, [], 2, 1000, cost)
            shelf = Shelf(program, book, [])
            old, new, price, done, _ = value.turned[-1]
            reached = {old}
            for _ in range(done):
                reached |= {made for term in reached for made in steps_from(shelf, term)}
            self.assertTrue(all(cost_of(term, cost) >= price for term in reached))
            cheaper += price < cost_of(old, cost)
        self.assertGreater(cheaper, 10)


def steps_from(shelf, term):
    """All terms that one step from left to right makes of a term, and from right to left for rules of two ways."""
    stepping = Stepping(shelf)
    for place in places_of(term):
        part = term
        for index in place:
            part = parts(part)[index]
        for rule in shelf.rules:
            for way, side in ((1, rule.left), (-1, rule.right))[:rule.ways]:
                pairs = matched(side, part)
                if pairs is not None:
                    yield stepping.made(term, Step(rule.name, way, place, pairs))[1]
        for word in ("fold", "turn"):
            wrong, made = stepping.made(term, Step(word, 1, place, [("term", part)]))
            if wrong is None:
                yield made


class TestFunctions(Raises, unittest.TestCase):
    def test_results_go_by_what_stands_before(self):
        f, g = Function("f", ["x"], [("add", X, ZERO)]), Function("g", ["x"], [("call f 0", X), ("add", X, ("call f 0", ZERO))])
        program = Program(1, 3, [f, g], ["a"], [("tell", ("call g 1", A)), ("tell", ("call f 0", A))])
        value = better(program, DOUBLES, [], 4, 500, ONES)
        self.assertEqual([row[1] for row in value.turned], [X, X, X, A, A])
        # By an empty book calls are put in all the same, but not those of functions behind.
        value = better(program, EMPTY, [], 1, 500, Weights({"call": 50}, 1))
        self.assertEqual([row[1] for row in value.turned][:3], [("add", X, ZERO), ("add", X, ZERO), ("add", X, ("add", ZERO, ZERO))])

    def test_no_result_comes_to_call_itself(self):
        # By the lead a double of the loop of up is a loop of two; not so in the results of two and ahead of it.
        loop = ("shl 1", ("loop up 0", N, name("t")))
        two = Function("two", ["t"], [("add", name("t"), TWO)])
        after = Function("after", ["n", "t"], [loop, name("t")])
        cost = Weights({"loop two 0": 50}, 1)
        program = Program(1, 3, [UP, two, after], ["n", "t"], [("tell", loop)])
        value = better(program, EMPTY, [DOUBLE], 2, 100, cost)
        self.assertEqual([row[1] for row in value.turned], [row[0] for row in value.turned])
        cheap = Weights({"loop up 0": 50, "shl": 1}, 1)
        value = better(program, EMPTY, [DOUBLE], 2, 100, cheap)
        looped = ("loop two 0", N, ("shl 1", name("t")))
        self.assertEqual([row[1] for row in value.turned], [*[row[0] for row in value.turned][:2], looped, name("t"), looped])
        self.assertEqual(run(value.program, 8, [5, 7], {}, [], 9), run(program, 8, [5, 7], {}, [], 9))
        # The same results ahead of two stay as they are.
        program = Program(1, 3, [UP, after, two], ["n", "t"], [("tell", loop)])
        value = better(program, EMPTY, [DOUBLE], 2, 100, cheap)
        self.assertEqual([row[1] for row in value.turned][1:], [loop, name("t"), two.results[0], looped])

    def test_leads_make_loops_cheaper(self):
        program = Program(1, 50, [UP, TWOS], ["n"], [("tell", ("shl 1", ("loop up 0", N, ONE)))])
        cost = Weights({"shl": 9, "loop": 2}, 1)
        with_lead = better(program, LIBRARY, [DOUBLE], 3, 300, cost)
        without = better(program, LIBRARY, [], 3, 300, cost)
        self.assertEqual(with_lead.turned[-1][1:3], (("loop two 0", N, TWO), 4))
        self.assertGreater(without.turned[-1][2], 4)
        for count in (0, 1, 3, 200):
            self.assertEqual(run(with_lead.program, 8, [count], {}, [], 9), run(program, 8, [count], {}, [], 9))

    def test_leads_that_do_not_hold(self):
        program = Program(1, 50, [UP, TWOS], ["n"], [("tell", N)])
        wrong = Lead("wrong", "up", "two", [("name", "i")])
        self.check(Impossible, {"paper": led(program, wrong)}, better, program, EMPTY, [DOUBLE, wrong], 3, 300, ONES)
        self.assertEqual(led(program, wrong).index, 0)


class Arguments(Raises):
    """Arguments that better takes, and others for each of them that it refuses."""

    GOOD = (tell(("add", A, A)), DOUBLES, [], 2, 50, ONES)
    NAMES = ("program", "book", "leads", "rounds", "most", "cost")
    KINDS = (BadProgram, BadBook, BadLead, BadNumber, BadNumber, BadCost)

    def refused(self, action, more=()):
        wrong = {
            "program": [*STRANGE, 5, "program 1 0"], "book": [*STRANGE, 5, [], Shelf(tell(A), EMPTY, [])], "leads": [*STRANGE, 5, [5], [DOUBLE, None], {DOUBLE.name: DOUBLE}, DOUBLE, [DOUBLE] * 7],
            "rounds": [*STRANGE, -1, 9, "1", [1]], "most": [*STRANGE, 0, 1001, -1, "1"], "cost": [*STRANGE, 5, (), Weights, {"add": 1}],
        }
        for index, (part, error) in enumerate(zip(self.NAMES, self.KINDS)):
            for bad in wrong[part]:
                self.check_part(error, part, action, *self.GOOD[:index], bad, *self.GOOD[index + 1:], *more)
                # The first one that is bent is told.
                self.check_part(error, part, action, *self.GOOD[:index], bad, *[None] * (5 - index), *more)


class TestErrors(Arguments, unittest.TestCase):
    def test_parameters(self):
        self.refused(better)

    def test_rims(self):
        for rounds, most in ((0, 1), (8, 1000), (8, 1), (0, 1000)):
            self.assertIsInstance(better(*self.GOOD[:3], rounds, most, ONES), Better)
        leads = [Lead(f"lead{index}", "up", "two", [("shl 1", name("i"))]) for index in range(6)]
        self.assertIsInstance(better(tell(A, functions=[UP, TWOS]), DOUBLES, leads, 1, 50, ONES), Better)

    def test_what_the_shelf_refuses(self):
        program = tell(A, functions=[UP, TWOS], least=2)
        great = tell(balanced("add", [A] * 150), functions=[UP, TWOS], least=2)
        for one in (program, great):
            self.check(Twice, {"value": "double"}, better, one, Book(3, []), [DOUBLE, DOUBLE], 1, 1, ONES)
            self.check_part(Misfit, "least", better, one, Book(3, []), [Lead("gone", "up", "gone", [A])], 1, 1, ONES)
            self.check(NoFunction, {"value": "gone"}, better, one, Book(2, []), [Lead("gone", "up", "gone", [A])], 1, 1, ONES)
        # The parameters go ahead of what does not fit.
        self.check_part(BadCost, "cost", better, great, Book(3, []), [DOUBLE, DOUBLE], 1, 1, None)

    def test_sizes(self):
        for many, good in ((100, True), (101, False)):
            term = ("neg", balanced("add", [A] * many))
            self.assertEqual(size_of(term), 200 if good else 202)
            if good:
                self.assertEqual(better(tell(term), EMPTY, [], 1, 1, ONES).turned[0][1], term)
            else:
                self.check(TooMany, {"what": "size", "most": 200}, better, tell(term), EMPTY, [], 1, 1, ONES)
        self.check(TooMany, {"what": "size", "most": 200}, better, tell(balanced("add", [A] * 101)), EMPTY, [], 0, 1, ONES)
        function = Function("f", ["a"], [balanced("add", [A] * 101)])
        self.check(TooMany, {"what": "size", "most": 200}, better, tell(A, functions=[function]), EMPTY, [], 0, 1, ONES)

    def test_what_cheapest_refuses(self):
        grows = Book(1, [Rule("up", ("shl 1", X), ("add", X, X), 2), Rule("neg", ("neg", X), ("add", ("flip", X), ONE), 1)])
        wide, long = A, A
        for _ in range(12):
            wide = ("shl 1", wide)
        for _ in range(28):
            long = ("neg", long)
        dear = Weights({"shl": 10 ** 9, "neg": 10 ** 9}, 1)
        size, levels = {"what": "size", "most": 2000}, {"what": "levels", "most": 30}
        great = balanced("add", [A] * 101)
        for terms, fields in (((wide,), size), ((long,), levels), ((A, long, wide), levels), ((wide, long), size), ((wide, great), size), ((long, great), levels), ((great, wide), {"what": "size", "most": 200}), ((("neg", wide), great), size)):
            self.check(TooMany, fields, better, tell(*terms), grows, [], 1, 500, dear)
            self.check(TooMany, fields, shows_better, tell(*terms), grows, [], 1, 500, dear, None)
        self.assertEqual(better(tell(wide, long), grows, [], 1, 500, ONES).program, tell(wide, long))
        self.assertEqual(better(tell(wide, long), grows, [], 0, 500, dear).program, tell(wide, long))

    def test_nothing_is_changed(self):
        program = Program(1, 3, [UP, TWOS], ["n"], [("tell", ("shl 1", ("loop up 0", N, ONE)))])
        leads = [DOUBLE]
        one = better(program, LIBRARY, leads, 2, 100, ONES)
        self.assertEqual(leads, [DOUBLE])
        self.assertEqual((program, LIBRARY), (Program(1, 3, [UP, TWOS], ["n"], [("tell", ("shl 1", ("loop up 0", N, ONE)))]), library(1)))
        self.assertEqual(better(program, LIBRARY, leads, 2, 100, ONES), one)


class TestTime(unittest.TestCase):
    def test_many_terms_in_a_short_time(self):
        started = time.time()
        rng = random.Random(7)
        draw = DrawCalls(rng, [A, B, ONE, ZERO], ["add", "mul", "sub", "and", "xor", "neg", "if", "eq"], [])
        program = tell(*[draw.term("word", 40) for _ in range(30)])
        value = better(program, LIBRARY, [], 8, 1000, ONES)
        self.assertTrue(shows_better(program, LIBRARY, [], 8, 1000, ONES, value))
        self.assertLess(time.time() - started, 30)


if __name__ == "__main__":
    unittest.main()
