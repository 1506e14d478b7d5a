"""The need of registers of terms, and plain rows that make them."""

import random
import time
import unittest

from helpers import FALSE, P, Q, STRANGE, TRUE, X, Y, Z, DrawCalls, Raises, as_lists, has_no_list, name, number
from leastequal.errors import BadNumber, BadTerm, Misfit
from leastequal.program import Function
from leastequal.registers import makes, need_of, rows_of
from leastequal.rules import plain_form
from slow_registers import heavy, least_registers, registers_named, slow_makes, slow_need
from slow_rules import balanced
from test_costs import LABELS

A, B, C = name("a"), name("b"), name("c")
ONE = number(1)
FUNCTIONS = [Function("f", ["a", "b"], [A, B]), Function("g", [], [ONE]), Function("h", ["a"], [A])]
LEAVES = [A, B, P, TRUE, FALSE, ONE]
NEST = ("sub", ("call f 1", ("add", A, B), ("loop h 0", A, ("call g 0",))), ("mul", ("call f 0", A, B), C))


def drawn(seed, many, size):
    rng = random.Random(seed)
    draw = DrawCalls(rng, LEAVES, LABELS, FUNCTIONS)
    return [draw.term(rng.choice(["word", "word", "truth"]), rng.randint(1, size)) for _ in range(many)]


def tree(levels):
    """A term whose need is the number of its levels."""
    return balanced("add", [A] * 2 ** (levels - 1))


class TestNeeds(Raises, unittest.TestCase):
    def test_against_all_orders(self):
        for term in drawn(1, 120, 9) + [tree(3), NEST, ("if", ("eq", A, B), ("add", A, B), C), ("if", ("both", P, Q), ("add", A, B), ("neg", A))]:
            self.assertEqual(need_of(term), least_registers(term), term)

    def test_by_the_words(self):
        for term in drawn(2, 200, 60):
            self.assertEqual(need_of(as_lists(term)), slow_need(term))

    def test_some(self):
        for term, need in (
            (A, 1), (TRUE, 1), (P, 1), (("no", P), 1), (("at", A), 1), (("add", A, A), 2), (("if", P, A, B), 3), (("call g 0",), 1), (("call f 0", A, B), 1),
            (("loop h 0", ("add", A, B), ("if", P, A, B)), 3), (("add", ("call f 0", A, B), ("neg", A)), 2), (("if", tree(4), tree(3), tree(2)), 4),
            (("if", tree(4), tree(4), tree(2)), 5), (("if", tree(4), tree(4), tree(4)), 6), (("if", tree(2), tree(3), tree(4)), 4), (("call f 0", tree(4), tree(4)), 4),
        ):
            if term[0] == "if" and term[1][0] == "add":
                term = ("if", ("eq", *term[1][1:]), *term[2:])
            self.assertEqual(need_of(term), need)

    def test_errors(self):
        for bad in [*STRANGE, 5, ("add", A), ("add", A, P), "a"]:
            self.check_part(BadTerm, "term", need_of, bad)
        self.assertEqual(need_of(term=A), 1)


class TestRows(Raises, unittest.TestCase):
    def test_they_make_the_term(self):
        for term in drawn(3, 250, 40) + [tree(7), NEST]:
            need = need_of(term)
            for many in (need, need + 1, 16):
                rows = rows_of(as_lists(term), many)
                self.assertTrue(isinstance(rows, tuple) and has_no_list(rows))
                self.assertIs(makes(term, many, rows), True)
                self.assertTrue(slow_makes(term, rows))
                self.assertLess(max(registers_named(rows)), need)
                self.assertNotIn("store", [row[0] for row in rows])
                self.assertNotIn("load", [row[0] for row in rows])
            if need > 1:
                self.check_part(Misfit, "registers", rows_of, term, need - 1)
                self.check_part(Misfit, "registers", rows_of, term, 1)

    def test_rims(self):
        for many in range(1, 17):
            self.assertTrue(makes(A, many, rows_of(A, many)))
            self.assertTrue(makes(tree(min(many, 13)), many, rows_of(tree(min(many, 13)), many)))
        whole = ("if", ("eq", tree(12), tree(12)), tree(13), tree(13))
        self.assertEqual(need_of(whole), 15)
        self.assertTrue(makes(whole, 15, rows_of(whole, 15)))
        self.check_part(Misfit, "registers", rows_of, whole, 14)
        great = heavy(8, A)
        self.assertEqual(need_of(great), 17)
        self.check_part(Misfit, "registers", rows_of, great, 16)
        self.assertIs(makes(great, 16, rows_of(great[2], 15)), False)
        for many in (1, 2, 5, 12):
            self.check_part(Misfit, "registers", rows_of, tree(many + 1), many)
            self.check_part(Misfit, "registers", rows_of, ("call h 0", tree(many + 1)), many)

    def test_again(self):
        self.assertEqual(rows_of(NEST, 5), rows_of(term=NEST, many=5))

    def test_errors(self):
        for bad in [*STRANGE, 5, ("add", A)]:
            self.check_part(BadTerm, "term", rows_of, bad, 0)
            self.check_part(BadTerm, "term", makes, bad, 0, [])
        for bad in [*STRANGE, 0, 17, -1, "3", [3]]:
            self.check_part(BadNumber, "many", rows_of, tree(5), bad)
            self.check_part(BadNumber, "many", makes, tree(5), bad, 7)

    def test_deep_terms_of_the_package(self):
        names = [name(f"n{index}") for index in range(31)]
        long = plain_form(("mul", balanced("add", names), balanced("add", names)), number(0))[0]
        need = need_of(long)
        self.assertTrue(makes(long, need, rows_of(long, need)))

    def test_great_terms_in_a_short_time(self):
        started = time.time()
        term = ("add", tree(13), ("mul", tree(12), A))
        rows = rows_of(term, 16)
        self.assertIs(makes(term, 16, rows), True)
        self.assertIs(makes(term, 16, rows[:-1]), False)
        self.assertLess(time.time() - started, 5)


class TestMakes(Raises, unittest.TestCase):
    def right(self, term, many, *rows):
        self.assertIs(makes(term, many, rows), True)
        self.assertIs(makes(term, many, as_lists(rows)), True)
        self.assertTrue(slow_makes(term, rows))

    def wrong(self, term, many, *rows):
        self.assertIs(makes(term, many, rows), False)

    def test_leaves(self):
        for term, row in ((A, ("name", 0, "a")), (number(-5), ("number", 0, -5)), (P, ("flag", 0, "p")), (TRUE, ("true", 0)), (FALSE, ("false", 0))):
            self.right(term, 1, row)
            self.right(term, 3, ("name", 2, "z"), row)
            self.wrong(term, 1)
            self.wrong(("neg", A), 1, row)
            self.wrong(term, 16, (row[0], 1, *row[2:]))
        self.wrong(A, 1, ("flag", 0, "a"))
        self.wrong(("flag", "a"), 1, ("name", 0, "a"))
        self.wrong(A, 1, ("name", 0, "b"))

    def test_other_orders(self):
        self.right(("sub", A, B), 2, ("name", 1, "a"), ("name", 0, "b"), ("sub", 0, 1, 0))
        self.right(("sub", A, B), 2, ("name", 0, "b"), ("name", 1, "a"), ("sub", 0, 1, 0))
        self.right(("sub", A, B), 3, ("name", 2, "b"), ("name", 1, "a"), ("sub", 0, 1, 2))
        self.wrong(("sub", A, B), 2, ("name", 0, "b"), ("name", 1, "a"), ("sub", 0, 0, 1))
        self.wrong(("sub", A, B), 2, ("name", 0, "a"), ("name", 1, "b"), ("sub", 1, 0, 1))
        self.wrong(("sub", A, B), 1, ("name", 1, "a"), ("name", 0, "b"), ("sub", 0, 1, 0))
        self.right(("if", P, A, B), 3, ("name", 0, "b"), ("flag", 1, "p"), ("name", 2, "a"), ("if", 0, 1, 2, 0))

    def test_what_is_taken_is_gone(self):
        self.right(("add", A, A), 2, ("name", 0, "a"), ("name", 1, "a"), ("add", 0, 0, 1))
        self.wrong(("add", A, A), 2, ("name", 0, "a"), ("add", 0, 0, 0))
        self.wrong(("add", A, A), 2, ("name", 0, "a"), ("name", 1, "a"), ("add", 0, 1, 1))
        self.wrong(("add", ("neg", A), A), 2, ("name", 1, "a"), ("neg", 0, 1), ("add", 0, 0, 1))
        self.wrong(("neg", A), 2, ("neg", 0, 0))

    def test_what_is_left_elsewhere_is_let(self):
        self.right(A, 2, ("name", 1, "b"), ("name", 0, "a"))
        self.right(A, 2, ("name", 0, "b"), ("name", 0, "a"))
        self.right(A, 2, ("name", 1, "b"), ("store", 7, 1), ("name", 0, "a"))
        self.wrong(A, 2, ("name", 0, "a"), ("name", 0, "b"))

    def test_cells(self):
        self.right(("add", A, B), 2, ("name", 0, "a"), ("store", 999, 0), ("name", 0, "b"), ("load", 1, 999), ("add", 0, 1, 0))
        self.right(A, 1, ("name", 0, "b"), ("store", 0, 0), ("name", 0, "a"), ("store", 0, 0), ("load", 0, 0))
        self.wrong(A, 1, ("name", 0, "a"), ("store", 0, 0))
        self.wrong(("add", A, A), 2, ("name", 0, "a"), ("store", 0, 0), ("load", 0, 0), ("load", 1, 0), ("add", 0, 0, 1))
        self.wrong(A, 2, ("name", 0, "a"), ("load", 1, 0))
        self.wrong(A, 2, ("store", 0, 1), ("name", 0, "a"))
        self.wrong(A, 1, ("name", 0, "a"), ("store", 0, 0), ("load", 0, 1))
        for cell in (1000, -1, True, "0", None, 0.0):
            self.wrong(A, 1, ("name", 0, "a"), ("store", cell, 0), ("load", 0, cell))

    def test_lists(self):
        call = ("call f 0", A, B)
        good = [("open",), ("name", 0, "a"), ("hand", 0), ("name", 0, "b"), ("hand", 0), ("call f 0", 0)]
        self.right(call, 1, *good)
        self.right(call, 3, ("open",), ("name", 2, "b"), ("name", 1, "a"), ("hand", 1), ("hand", 2), ("call f 0", 0))
        self.right(("loop f 5", A, B), 1, *good[:-1], ("loop f 5", 0))
        self.right(("call g 0",), 1, ("open",), ("call g 0", 0))
        self.wrong(call, 1, *good[1:])
        self.wrong(call, 1, *good[:-1])
        self.wrong(call, 1, *good, ("open",))
        self.wrong(call, 1, ("open",), *good)
        self.wrong(("call g 0",), 1, ("call g 0", 0))
        self.wrong(("call g 0",), 1, ("open",), ("call g 0", 0), ("call g 0", 0))
        self.wrong(A, 1, ("name", 0, "a"), ("hand", 0))
        self.wrong(call, 1, *good[:3], *good[1:])
        for index in range(len(good)):
            self.wrong(call, 1, *good[:index], *good[index + 1:])
            # A leaf that is brought twice is there once.
            doubled = [*good[:index], good[index], *good[index:]]
            self.assertIs(makes(call, 1, doubled), good[index][0] == "name")

    def test_lists_take_from_inside(self):
        self.wrong(("call h 0", A), 2, ("name", 1, "a"), ("open",), ("hand", 1), ("call h 0", 0))
        self.wrong(("call h 0", ("neg", A)), 2, ("name", 1, "a"), ("open",), ("neg", 1, 1), ("hand", 1), ("call h 0", 0))
        self.wrong(("call h 0", A), 2, ("name", 1, "a"), ("open",), ("store", 0, 1), ("load", 1, 0), ("hand", 1), ("call h 0", 0))
        # What a cell has may be from outside, and what is from outside may be lost.
        self.right(("call h 0", A), 2, ("name", 1, "a"), ("store", 0, 1), ("open",), ("load", 1, 0), ("hand", 1), ("call h 0", 0))
        self.right(("call h 0", A), 2, ("name", 1, "b"), ("open",), ("name", 1, "a"), ("hand", 1), ("call h 0", 0))
        self.right(("add", B, ("call h 0", A)), 2, ("name", 1, "b"), ("open",), ("name", 0, "a"), ("hand", 0), ("call h 0", 0), ("add", 0, 1, 0))
        # In a list within a list, too.
        inner = [("open",), ("name", 1, "b"), ("hand", 1), ("call h 0", 1)]
        nest = ("call f 0", A, ("call h 0", B))
        self.right(nest, 2, ("open",), ("name", 0, "a"), *inner, ("hand", 0), ("hand", 1), ("call f 0", 0))
        self.wrong(nest, 2, ("open",), ("name", 0, "a"), ("open",), ("hand", 0), ("call h 0", 1), ("hand", 1), ("call f 0", 0))
        self.wrong(("call f 0", ("call h 0", A)), 2, ("open",), ("name", 0, "a"), ("open",), ("hand", 0), ("call h 0", 1), ("hand", 1), ("call f 0", 0))

    def test_lists_leave_nothing(self):
        self.wrong(("call g 0",), 2, ("open",), ("name", 1, "a"), ("call g 0", 0))
        self.wrong(("call g 0",), 2, ("open",), ("name", 0, "a"), ("call g 0", 0))
        self.wrong(("add", ("call g 0",), A), 2, ("open",), ("name", 1, "a"), ("call g 0", 0), ("add", 0, 0, 1))
        self.right(("add", ("call g 0",), A), 2, ("open",), ("name", 1, "a"), ("store", 3, 1), ("call g 0", 0), ("load", 1, 3), ("add", 0, 0, 1))
        self.right(("call g 0",), 2, ("name", 1, "a"), ("open",), ("call g 0", 0))
        # The inner list may leave what the outer one had ahead of it.
        self.right(("call f 0", A, ("call g 0",)), 2, ("open",), ("name", 0, "a"), ("open",), ("call g 0", 1), ("hand", 0), ("hand", 1), ("call f 0", 0))
        self.wrong(("call f 0", ("call g 0",), A), 2, ("open",), ("open",), ("name", 0, "a"), ("call g 0", 1), ("hand", 1), ("hand", 0), ("call f 0", 0))

    def test_kinds_and_numbers_of_parts_are_not_looked_at(self):
        self.right(A, 2, ("flag", 0, "p"), ("neg", 1, 0), ("name", 0, "a"))
        self.right(A, 2, ("open",), ("call f 0", 1), ("name", 0, "a"))
        self.right(("call f 0", A, A, A), 1, ("open",), *[("name", 0, "a"), ("hand", 0)] * 3, ("call f 0", 0))
        self.right(A, 2, ("open",), ("loop f 0", 1), ("name", 0, "a"))
        self.right(A, 2, ("open",), *[("name", 1, "a"), ("hand", 1)] * 9, ("call f 0", 1), ("name", 0, "a"))

    def test_no_rows(self):
        for bad in [*STRANGE, 5, "abc", {}, {"a": 1}]:
            self.assertIs(makes(A, 1, bad), False)
        good = ("name", 0, "a")
        for bad in [*STRANGE, 5, "name", (), [[]], ("name",), ("name", 0), ("name", 0, "a", "b"), (0, "name", "a"), (("name", "a"), 0), ("spend",), ("keep", "a", 0), ("ask", "a"), ("tell", 0), ("go", 0), ("unless", 0, 1), ("put", 0, 0), ("Name", 0, "a"), ("name 0 a",), ("shl", 0, 0), ("call f", 0), ("call f 6", 0), ("open", 0), ("hand",), ("hand", 0, 0), ("true", 0, 0), ("flag", 0, "P"), ("number", 0, 2147483648), ("number", 0, -2147483648), ("number", 0, True), ("number", 0, "1"), ("name", 0, "true"), ("name", 0, "A"), ("name", 0, 5), ("name", 0, ["a"])]:
            self.wrong(A, 3, bad, good)
            self.wrong(A, 3, good, bad)
        for row in (("number", 0, 2147483647), ("number", 0, -2147483647), ("flag", 0, "true"), ("name", 0, "a1b2c3d4")):
            self.right(A, 3, row, good)

    def test_registers(self):
        for many in (1, 2, 16):
            for register in range(many):
                self.right(A, many, ("name", register, "b"), ("name", 0, "a"))
            for bad in (many, 17, -1, False, True, "0", None, 0.0, 10 ** 30):
                self.wrong(A, many, ("name", bad, "b"), ("name", 0, "a"))
                self.wrong(("neg", A), many, ("name", 0, "a"), ("neg", 0, bad))
                self.wrong(("call h 0", A), many, ("open",), ("name", 0, "a"), ("hand", bad), ("call h 0", 0))
                self.wrong(A, many, ("name", 0, "a"), ("store", 0, bad), ("load", 0, 0))
                self.wrong(A, many, ("name", 0, "a"), ("store", 0, 0), ("load", bad, 0))
                self.wrong(("call g 0",), many, ("open",), ("call g 0", bad))

    def test_bent_rows(self):
        rng = random.Random(7)
        seen = []
        for term in drawn(8, 150, 14) + [NEST] * 20:
            rows = list(rows_of(term, max(3, need_of(term))))
            if rng.random() < 0.5 and len(rows) > 2:
                # A value goes through a cell and comes back.
                index = rng.randrange(1, len(rows))
                if rows[index - 1][0] not in ("open", "hand"):
                    rows[index:index] = [("store", 4, rows[index - 1][1]), ("load", rows[index - 1][1], 4)]
                    self.assertTrue(makes(term, 16, rows))
            for _ in range(25):
                bent = list(rows)
                index = rng.randrange(len(bent))
                bend = rng.randrange(5)
                if bend == 0:
                    bent.pop(index)
                elif bend == 1:
                    bent.insert(index, rng.choice(bent))
                elif bend == 2:
                    other = rng.randrange(len(bent))
                    bent[index], bent[other] = bent[other], bent[index]
                elif bend == 3:
                    at = rng.randrange(len(bent[index]))
                    if at > 0 and isinstance(bent[index][at], int) and bent[index][0] != "number":
                        bent[index] = (*bent[index][:at], rng.randrange(4), *bent[index][at + 1:])
                else:
                    bent.insert(index, rng.choice([("open",), ("hand", 0), ("hand", 1), ("call g 0", 0), ("call g 0", 1), ("store", 4, 0), ("load", 1, 4), ("name", 2, "b")]))
                wanted = slow_makes(term, bent)
                self.assertIs(makes(term, 16, bent), wanted, (term, bent))
                seen.append(wanted)
        self.assertGreater(seen.count(True), 300)
        self.assertGreater(seen.count(False), 1000)


if __name__ == "__main__":
    unittest.main()
