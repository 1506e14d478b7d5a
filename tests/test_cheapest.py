"""A cheapest member of a class by the told way, and floors of classes."""

import random
import time
import unittest

from helpers import P, STRANGE, TRUE, X, Y, DrawCalls, Raises, has_no_list, name, number
from leastequal.cheapest import Cheapest, cheapest, floors
from leastequal.classes import Classes
from leastequal.costs import Both, Depth, Needs, Weights, cost_of
from leastequal.errors import BadClasses, BadCost, NoClass, TooMany
from leastequal.members import is_endless
from leastequal.papers import Denial, Paper
from leastequal.program import Function
from leastequal.terms import levels_of, size_of
from slow_classes import drawn_joins, members_of
from slow_costs import settle, undercut

A, B = name("a"), name("b")
ONE, ZERO = number(1), number(0)
FUNCTIONS = [Function("f", ["a", "b"], [A, B]), Function("g", [], [ONE])]
LABELS = ["add", "mul", "neg", "shl 3", "if", "eq", "no", "both"]
ONES = Weights([], 1)


def drawn(seed, many=9, size=7):
    rng = random.Random(seed)
    draw = DrawCalls(rng, [A, B, P, TRUE, ZERO], LABELS, FUNCTIONS)
    classes = Classes()
    for one, other in drawn_joins(rng, draw, many, size):
        if rng.random() < 0.3:
            classes.put(one)
        else:
            classes.join(one, other, None)
    return classes


def costs(seed):
    rng = random.Random(seed)
    words = ["number", "name", "flag", "true", "add", "mul", "neg", "shl", "if", "call", "loop", "eq", "no", "both", "call f 1", "loop f 0"]
    table = {word: rng.randint(1, 4) for word in rng.sample(words, 9)}
    flat = {word: rng.randint(0, 3) for word in rng.sample(words, 9)}
    weights = Weights(table, rng.randint(1, 3))
    found = [weights, ONES, Depth(flat, rng.randint(0, 2)), Depth({}, 0), Needs()]
    return found + [Both(weights, Needs()), Both(ONES, Depth(flat, 1)), Both(Weights(table, 1), ONES)]


# By these costs calls are never taken.
DEAR, DEEP = Weights({"call": 10 ** 12}, 1), Depth({"call": 10 ** 12}, 1)


def doubled(levels):
    """A Classes, and its classes in order: each has a call without parts, and ( add c c ), c being the class ahead."""
    classes = Classes()
    terms = [A]
    classes.put(A)
    for index in range(levels):
        terms.append((f"call d{index} 0",))
        classes.join(("add", terms[-2], terms[-2]), terms[-1], None)
    return classes, [classes.class_of(term) for term in terms]


class TestToldWay(Raises, unittest.TestCase):
    def test_against_slow_settling(self):
        endless = 0
        for seed in range(30):
            classes = drawn(seed)
            for cost in costs(seed):
                settled = settle(classes, cost)
                told = floors(classes, cost)
                self.assertEqual(told, tuple((place, settled[place][0]) for place in classes.places))
                for place in classes.places:
                    paper = cheapest(classes, place, cost)
                    self.assertIsInstance(paper, Cheapest)
                    self.assertEqual((paper.term, paper.floors), (settled[place][3], told))
                    endless += is_endless(classes, place)
        self.assertGreater(endless, 200)

    def test_no_member_and_no_node_is_below(self):
        for seed in range(30):
            classes = drawn(seed)
            listed = members_of(classes, 7)
            for cost in costs(seed):
                table = dict(floors(classes, cost))
                self.assertFalse(undercut(classes, cost, table))
                for place in classes.places:
                    best = cheapest(classes, place, cost).term
                    self.assertEqual((classes.class_of(best), cost_of(best, cost)), (place, table[place]))
                    some = [term for size in range(1, 8) for term in listed[place][size][:60]]
                    self.assertTrue(all(cost_of(term, cost) >= table[place] for term in some))

    def test_equal_worths(self):
        # Of equal worths the lesser size goes ahead, then fewer levels, then the lesser class, then the lesser node.
        flat = Depth([], 0)
        box = Classes()
        box.join(("add", A, B), ("neg", ("neg", A)), None)
        self.assertEqual(cheapest(box, box.class_of(("add", A, B)), flat).term, ("add", A, B))
        box = Classes()
        box.join(("add", A, ("neg", A)), ("neg", ("neg", ("neg", B))), None)
        self.assertEqual(cheapest(box, box.class_of(("add", A, ("neg", A))), flat).term, ("add", A, ("neg", A)))
        box = Classes()
        box.join(("mul", A, A), ("add", A, A), None)
        box.join(("mul", A, A), ("add", A, B), None)
        self.assertEqual(cheapest(box, box.class_of(("mul", A, A)), flat).term, ("add", A, A))
        box.join(A, B, None)
        self.assertEqual(cheapest(box, 0, flat).term, A)
        self.assertEqual(cheapest(box, 0, Weights({}, 5)).term, A)
        loop = Classes()
        loop.join(("add", A, ZERO), A, None)
        self.assertEqual([cheapest(loop, 0, cost).term for cost in (ONES, flat, Needs())], [A, A, A])
        self.assertEqual(cheapest(loop, 0, Depth({"name": 5}, 0)).term, A)

    def test_endless_classes_without_a_short_leaf(self):
        # A class whose leaf is dear and whose other node has the class itself as a part.
        box = Classes()
        box.join(("if", P, A, ("neg", A)), A, None)
        box.join(A, ("shl 2", B), None)
        dear = Weights({"name": 100, "shl": 3, "if": 1, "neg": 1}, 1)
        self.assertEqual(cheapest(box, box.class_of(A), dear).term, A)
        self.assertEqual(floors(box, dear), tuple((place, settle(box, dear)[place][0]) for place in box.places))

    def test_tuples(self):
        box = drawn(3)
        paper = cheapest(box, box.places[-1], Both(ONES, Needs()))
        self.assertTrue(has_no_list(paper.parts) and has_no_list(floors(box, ONES)))
        self.assertEqual((paper.word, paper.parts), ("cheapest", (paper.term, paper.floors)))
        self.assertEqual(cheapest(box, box.places[-1], Both(ONES, Needs())), paper)
        self.assertTrue(paper)

    def test_the_paper(self):
        paper = Cheapest(floors=[[0, 1]], term=["name", "x"])
        self.assertEqual((paper.word, paper.term, paper.floors), ("cheapest", ("name", "x"), ((0, 1),)))
        self.assertEqual(type(paper).__bases__, (Paper,))
        self.assertNotIsInstance(paper, Denial)
        self.assertEqual(Cheapest(1, {2}).parts, (1, {2}))


class TestBounds(Raises, unittest.TestCase):
    def wide(self, size):
        """A Classes with a single member of this size in its last class, of few levels."""
        def term(size):
            if size <= 2:
                return A if size == 1 else ("neg", A)
            rest = (size - 1) // 2
            return ("add", term(rest), term(size - 1 - rest))
        classes = Classes()
        made = term(size)
        self.assertEqual(size_of(made), size)
        return classes, classes.put(made), made

    def long(self, levels):
        classes = Classes()
        term = A
        for _ in range(levels - 1):
            term = ("neg", term)
        self.assertEqual(levels_of(term), levels)
        return classes, classes.put(term), term

    def test_sizes(self):
        for cost in (ONES, Needs(), Depth([], 0), Both(ONES, Needs())):
            for size in (1999, 2000):
                classes, place, term = self.wide(size)
                self.assertEqual(cheapest(classes, place, cost).term, term)
            for size in (2001, 2500):
                classes, place, _ = self.wide(size)
                self.check(TooMany, {"what": "size", "most": 2000}, cheapest, classes, place, cost)
                self.assertEqual(len(floors(classes, cost)), len(classes.places))
                self.assertEqual(cheapest(classes, classes.class_of(A), cost).term, A)

    def test_levels(self):
        for cost in (ONES, Needs(), Depth([], 0)):
            for levels in (29, 30):
                classes, place, term = self.long(levels)
                self.assertEqual(cheapest(classes, place, cost).term, term)
            classes, place, _ = self.long(31)
            self.check(TooMany, {"what": "levels", "most": 30}, cheapest, classes, place, cost)

    def test_size_goes_ahead_of_levels(self):
        started = time.time()
        classes, places = doubled(100)
        for cost in (DEAR, DEEP):
            for level in (0, 1, 9):
                self.assertEqual(size_of(cheapest(classes, places[level], cost).term), 2 ** (level + 1) - 1)
            for level in (10, 29, 30, 35):
                self.check(TooMany, {"what": "size", "most": 2000}, cheapest, classes, places[level], cost)
        self.check(TooMany, {"what": "size", "most": 2000}, cheapest, classes, places[100], DEEP)
        self.assertEqual(cheapest(classes, places[100], DEAR).term, ("call d99 0",))
        self.assertEqual([dict(floors(classes, DEAR))[places[level]] for level in (3, 38, 39, 100)], [15, 2 ** 39 - 1, 10 ** 12, 10 ** 12])
        self.assertEqual(dict(floors(classes, DEEP))[places[100]], 101)
        self.assertLess(time.time() - started, 5)

    def test_the_told_term_counts(self):
        # There is a small member, but the told way takes the cheap one, which is too great.
        classes = Classes()
        term = A
        for _ in range(11):
            term = ("add", term, term)
        place = classes.put(term)
        classes.join(term, ("mul", A, B), None)
        self.check(TooMany, {"what": "size", "most": 2000}, cheapest, classes, place, Weights({"mul": 10 ** 6}, 1))
        self.assertEqual(cheapest(classes, place, Weights({"mul": 10 ** 3}, 1)).term, ("mul", A, B))


class TestErrors(Raises, unittest.TestCase):
    def test_errors(self):
        box = drawn(1)
        for bad in [*STRANGE, 5, (), [box]]:
            self.check_part(BadClasses, "classes", floors, bad, bad)
            self.check_part(BadClasses, "classes", cheapest, bad, None, None)
        for bad in [*STRANGE, -1, 10 ** 9, "0", (0,), 0.0]:
            self.check(NoClass, {"value": bad}, cheapest, box, bad, bad)
        gone = [place for place in range(box.places[-1]) if place not in box.places][0]
        self.check(NoClass, {"value": gone}, cheapest, box, gone, ONES)
        for bad in [*STRANGE, 5, (), Weights, {"add": 1}]:
            self.check_part(BadCost, "cost", floors, box, bad)
            self.check_part(BadCost, "cost", cheapest, box, box.places[0], bad)
            self.check_part(BadCost, "cost", cheapest, doubled(20)[0], 0, bad)
        self.assertEqual(cheapest(cost=ONES, place=0, classes=doubled(0)[0]).term, A)
        self.assertEqual(floors(cost=Needs(), classes=Classes()), ())

    def test_nothing_is_changed(self):
        box = drawn(2)
        copy = box.copy()
        floors(box, ONES)
        cheapest(box, box.places[0], Needs())
        self.assertTrue(copy == box)
        # What was told does not hang on what was asked ahead: classes change, and so do the floors.
        box.join(("add", X, Y), ("neg", X), None)
        self.assertEqual(dict(floors(box, ONES))[box.class_of(("neg", X))], 2)
        box.join(("neg", X), ONE, None)
        self.assertEqual(dict(floors(box, ONES))[box.class_of(("neg", X))], 1)


if __name__ == "__main__":
    unittest.main()
