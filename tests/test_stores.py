"""Parts of terms that are stored, so that fewer registers are enough."""

import itertools
import random
import time
import unittest

from helpers import FALSE, P, STRANGE, TRUE, X, Y, DrawCalls, Raises, as_lists, has_no_list, name, number
from leastequal.errors import BadNumber, BadTerm, Misfit
from leastequal.papers import fixed
from leastequal.program import Function
from leastequal.registers import makes, need_of, rows_of
from leastequal.stores import cut_of, fewest_stores, rows_for, rows_with_cut
from slow_registers import all_places, fewest_by_trial, fits, inner_places, registers_named, slow_makes
from slow_rules import balanced

A, B = name("a"), name("b")
ONE = number(1)
FUNCTIONS = [Function("f", ["a", "b"], [A, B]), Function("g", [], [ONE])]
LABELS = ["add", "sub", "mul", "neg", "if", "eq", "both", "no"]
BROAD = ["add", "mul", "if", "eq"]
EIGHT = balanced("add", [A, B, A, B, A, B, A, B])


def drawn(seed, many, size, labels=LABELS):
    rng = random.Random(seed)
    draw = DrawCalls(rng, [A, B, P, TRUE, FALSE, ONE], labels, FUNCTIONS)
    return [draw.term(rng.choice(["word", "word", "truth"]), rng.randint(size // 2, size)) for _ in range(many)]


def wide(levels):
    """A term of three parts everywhere, so that its need grows fast."""
    made = A
    for _ in range(levels):
        made = ("if", ("eq", made, A), made, made)
    return made


def stores_in(rows):
    return [row[1] for row in rows if row[0] == "store"]


class TestFewest(Raises, unittest.TestCase):
    def test_against_all_cuts(self):
        seen = []
        terms = [term for term in drawn(1, 400, 30, BROAD) if need_of(term) > 3 and len(all_places(term)) < 40][:60]
        terms += [EIGHT, ("call f 0", EIGHT, EIGHT), ("neg", EIGHT), wide(2), ("add", wide(1), wide(1)), ("if", ("eq", EIGHT, A), B, B)]
        terms += [("add", EIGHT, EIGHT), ("neg", ("sub", EIGHT, ("call f 0", EIGHT, A))), ("if", ("eq", wide(1), wide(1)), wide(1), EIGHT), ("call g 0", wide(2), EIGHT)]
        for term in terms:
            for many in (3, 4, 5):
                wanted = fewest_by_trial(term, many)
                self.assertEqual(fewest_stores(term, many), wanted)
                seen.append(wanted)
        self.assertGreater(len(terms), 40)
        self.assertGreater(seen.count(1), 30)
        self.assertGreater(len([one for one in seen if one > 1]), 10)

    def test_none_where_the_need_is_small(self):
        for term in drawn(2, 150, 60):
            need = need_of(term)
            for many in range(max(3, need), 17):
                self.assertEqual((fewest_stores(term, many), cut_of(term, many)), (0, ()))
            for many in range(3, need):
                self.assertGreater(fewest_stores(term, many), 0)
                self.assertLessEqual(fewest_stores(term, many + 1), fewest_stores(term, many))

    def test_cuts_fit_and_are_as_small(self):
        for term in drawn(3, 150, 90) + [EIGHT, wide(3), wide(4)]:
            for many in (3, 4, 6):
                cut = cut_of(as_lists(term), many)
                self.assertEqual(len(cut), fewest_stores(term, many))
                self.assertEqual(list(cut), sorted(set(cut)))
                self.assertTrue(has_no_list(cut) and fits(term, many, cut))
                self.assertEqual(cut_of(term=term, many=many), cut)

    def test_cuts_within_cuts(self):
        deeper = balanced("add", [A] * 64)
        cut = cut_of(deeper, 3)
        self.assertEqual((len(cut), fewest_stores(deeper, 3)), (15, 15))
        self.assertTrue(any(one != other and other[:len(one)] == one for one, other in itertools.product(cut, repeat=2)))

    def test_errors(self):
        for action in (fewest_stores, cut_of, rows_for):
            for bad in [*STRANGE, 5, ("add", A)]:
                self.check_part(BadTerm, "term", action, bad, bad)
            for bad in [*STRANGE, 2, 17, 0, -3, "3", [3]]:
                self.check_part(BadNumber, "many", action, A, bad)
            for many in (3, 16):
                action(A, many)


class TestRows(Raises, unittest.TestCase):
    def look(self, term, many, cut):
        rows = rows_with_cut(term, many, cut)
        self.assertTrue(isinstance(rows, tuple) and has_no_list(rows))
        self.assertIs(makes(term, many, rows), True)
        self.assertTrue(slow_makes(fixed(term), rows))
        self.assertEqual(sorted(stores_in(rows)), list(range(len(cut))))
        self.assertLess(max(registers_named(rows)), many)
        return rows

    def test_any_cut(self):
        rng = random.Random(4)
        seen = []
        for term in drawn(5, 100, 20) + drawn(8, 100, 30, BROAD) + [EIGHT] * 5:
            places = inner_places(term)
            for many in (3, 4):
                cut = rng.sample(places, rng.randint(0, min(len(places), 5)))
                fit = fits(term, many, cut)
                seen.append(fit)
                if fit:
                    self.look(term, many, cut)
                    self.look(as_lists(term), many, as_lists(cut))
                else:
                    self.check_part(Misfit, "registers", rows_with_cut, term, many, cut)
        self.assertGreater(seen.count(True), 100)
        self.assertGreater(seen.count(False), 15)

    def test_all_parts(self):
        for term in drawn(6, 60, 20) + [EIGHT, wide(2)]:
            self.look(term, 3, inner_places(term))
            self.look(term, 3, inner_places(term)[::-1])

    def test_parts_of_calls(self):
        call = ("call f 0", EIGHT, ("loop f 1", A, EIGHT, B))
        for cut in ([(0, 0), (1, 1, 1)], [(0,), (1, 1)], [(0,), (1,), (1, 1, 0)], [(0, 1), (0, 1, 0), (1, 1, 0), (1, 0)]):
            fit = fits(call, 3, cut)
            if fit:
                self.look(call, 3, cut)
            else:
                self.check_part(Misfit, "registers", rows_with_cut, call, 3, cut)
        self.assertTrue(fits(call, 3, [(0, 0), (1, 1, 1)]))

    def test_an_empty_cut(self):
        self.assertEqual(rows_with_cut(EIGHT, 4, []), rows_of(EIGHT, 4))
        self.assertEqual(rows_with_cut(term=A, many=3, cut=()), (("name", 0, "a"),))
        self.check_part(Misfit, "registers", rows_with_cut, EIGHT, 3, [])

    def test_rows_for(self):
        for term in drawn(7, 100, 80) + [EIGHT, wide(3)]:
            for many in (3, 5, 16):
                rows = rows_for(as_lists(term), many)
                self.assertIs(makes(term, many, rows), True)
                self.assertEqual(sorted(stores_in(rows)), list(range(fewest_stores(term, many))))
                self.assertLess(max(registers_named(rows)), min(many, need_of(term)))

    def test_no_cuts(self):
        term = ("add", ("neg", A), B)
        for good in ([], [(0,)], [[0], [0, 0]], ([1], (0, 0))):
            self.look(term, 3, good)
        for bad in [*STRANGE, 5, "0", {}, [0], [()], [(0,), ()], [(2,)], [(0, 1)], [(1, 0)], [(0,), (0,)], [(0,), (1,), [0]], [(-1,)], [(True,)], [(False,)], [("0",)], [(0.0,)], ["0"], [None], [[[0]]], [(0, None)], [(10 ** 30,)]]:
            self.check_part(Misfit, "cut", rows_with_cut, term, 3, bad)
        # The cut goes ahead of the registers.
        self.check_part(Misfit, "cut", rows_with_cut, EIGHT, 3, [(5,)])

    def test_errors(self):
        for bad in [*STRANGE, 5, ("add", A)]:
            self.check_part(BadTerm, "term", rows_with_cut, bad, bad, bad)
        for bad in [*STRANGE, 2, 17, "3"]:
            self.check_part(BadNumber, "many", rows_with_cut, A, bad, bad)


class TestTime(unittest.TestCase):
    def test_thirty_levels_in_a_short_time(self):
        started = time.time()
        term = EIGHT
        for index in range(26):
            term = ("add", term, balanced("mul", [X, Y, A, B] * 8)) if index % 2 else ("if", ("eq", term, wide(2)), A, EIGHT)
        for many in (3, 4, 16):
            rows = rows_for(term, many)
            self.assertTrue(makes(term, many, rows))
            self.assertEqual(len(stores_in(rows)), fewest_stores(term, many))
        self.assertLess(time.time() - started, 5)

    def test_great_terms_in_a_short_time(self):
        started = time.time()
        for term in (balanced("add", [A] * 5000), wide(7)):
            for many in (3, 16):
                self.assertEqual(len(cut_of(term, many)), fewest_stores(term, many))
        self.assertLess(time.time() - started, 10)


if __name__ == "__main__":
    unittest.main()
