"""Sum terms, their polynomials, and where two of them part."""

import random
import unittest

from helpers import FALSE, P, STRANGE, TRUE, X, Y, Z, Draw, Raises, all_told, as_lists, has_no_list, name, number, worth
from leastequal.binomials import parting_of
from leastequal.errors import BadNumber, BadTerm, TooMany
from leastequal.polynomials import alike_at, is_sum_term, parting, polynomial
from leastequal.terms import names_in
from slow_rules import balanced, first_parting, integer, power, shifted

LABELS = ["add", "sub", "mul", "neg", "shl 1", "shl 2", "shl 3"]
LEAVES = [X, Y, number(0), number(1), number(2), number(-1), number(3), number(6)]
NO_SUMS = [
    P, TRUE, FALSE, ("and", X, Y), ("or", X, Y), ("xor", X, Y), ("flip", X), ("at", X), ("if", P, X, Y), ("eq", X, Y),
    ("lt", X, Y), ("less", X, Y), ("both", P, P), ("either", P, P), ("no", P), ("call f 0",), ("call f 0", X),
    ("loop f 0", X, Y),
]


def drawn(seed, many, leaves=LEAVES, size=9):
    rng = random.Random(seed)
    draw = Draw(rng, leaves, LABELS)
    return [draw.term("word", rng.randint(1, size)) for _ in range(many)]


def total(found, told):
    """What a polynomial makes of integers for its names."""
    made = 0
    for product, many in found:
        for spelling in product:
            many *= told[spelling]
        made += many
    return made


class TestSumTerms(Raises, unittest.TestCase):
    def test_labels(self):
        for term in [X, number(5), ("add", X, Y), ("sub", X, X), ("mul", X, Y), ("neg", X), ("shl 1", X), ("shl 31", X)]:
            self.assertIs(is_sum_term(term), True)
            self.assertIs(is_sum_term(as_lists(("add", ("neg", term), X))), True)

    def test_no_sums(self):
        for term in NO_SUMS:
            self.assertIs(is_sum_term(term), False)
            self.check_part(BadTerm, "term", polynomial, term)
        for term in [one for one in NO_SUMS if one[0] not in ("flag", "true", "false", "eq", "lt", "less", "both", "either", "no")]:
            deep = ("add", X, ("mul", number(2), ("neg", ("shl 3", term))))
            self.assertIs(is_sum_term(deep), False)
            self.check_part(BadTerm, "term", polynomial, deep)

    def test_no_terms(self):
        for value in STRANGE + [5, "x", (), ("add", X), ("shl 0", X), ("shl 32", X)]:
            self.check_part(BadTerm, "term", is_sum_term, value)
            self.check_part(BadTerm, "term", polynomial, value)


class TestPolynomial(Raises, unittest.TestCase):
    def test_against_integers(self):
        rng = random.Random(1)
        for term in drawn(2, 400, LEAVES + [Z], 14):
            found = polynomial(term)
            self.assertTrue(has_no_list(found))
            self.assertEqual(list(found), sorted(found))
            for product, many in found:
                self.assertEqual(product, tuple(sorted(product)))
                self.assertNotEqual(many, 0)
            self.assertEqual(len({product for product, _ in found}), len(found))
            for _ in range(12):
                told = {spelling: rng.randint(-50, 50) for spelling in "xyz"}
                self.assertEqual(total(found, told), integer(term, told))

    def test_single_ones(self):
        self.assertEqual(polynomial(number(0)), ())
        self.assertEqual(polynomial(number(-7)), (((), -7),))
        self.assertEqual(polynomial(["name", "x"]), ((("x",), 1),))
        self.assertEqual(polynomial(("shl 31", ("shl 31", X))), ((("x",), 2 ** 62),))
        self.assertEqual(polynomial(("mul", Y, ("mul", X, Y))), ((("x", "y", "y"), 1),))
        self.assertEqual(polynomial(("sub", ("mul", X, Y), ("mul", Y, X))), ())
        self.assertEqual(polynomial(("neg", ("sub", number(2), X))), (((), -2), (("x",), 1)))
        self.assertEqual(polynomial(term=power(X, 3000)), ((("x",) * 3000, 1),))

    def test_spread(self):
        ten = balanced("add", [name(f"a{index}") for index in range(10)])
        edge = ("mul", ten, ("neg", ("mul", ten, ("shl 2", ten))))
        self.assertEqual(len(polynomial(edge)), 220)
        self.check(TooMany, {"what": "monomials", "most": 1000}, polynomial, ("add", edge, number(0)))
        self.check(TooMany, {"what": "monomials", "most": 1000}, polynomial, ("sub", edge, X))
        # What falls out still counts.
        zeros = ("sub", balanced("add", [X] * 500), balanced("add", [X] * 500))
        self.assertEqual(polynomial(zeros), ())
        self.check(TooMany, {"what": "monomials", "most": 1000}, polynomial, ("neg", ("add", zeros, X)))


class TestAlike(Raises, unittest.TestCase):
    def test_against_all_words(self):
        terms = drawn(3, 120)
        for one, other in zip(terms[::2], terms[1::2]):
            for width in range(1, 5):
                leaves = [X, Y]
                alike = all(worth(one, width, told, {}) == worth(other, width, told, {}) for told in all_told(leaves, width))
                self.assertIs(alike_at(one, other, width), alike)

    def test_each_width(self):
        # x (x - 1) .. (x - 7) is a multiple of 8!, so of 2 to the power of 7.
        row = balanced("mul", [("sub", X, number(index)) for index in range(8)])
        for width in range(1, 9):
            alike = all(worth(row, width, {X: word}, {}) == 0 for word in range(2 ** width))
            self.assertIs(alike_at(row, number(0), width), alike)
            self.assertIs(alike_at(row, number(0), width), width <= 7)
        self.assertIs(alike_at(("mul", X, Y), ("mul", Y, X), 300), True)
        self.assertIs(alike_at(shifted(X, 299), number(0), 299), True)
        self.assertIs(alike_at(shifted(X, 299), number(0), 300), False)

    def test_errors(self):
        wide = balanced("add", [X] * 1001)
        for bad in STRANGE + NO_SUMS:
            self.check_part(BadTerm, "one", alike_at, bad, bad, 0)
            self.check_part(BadTerm, "other", alike_at, wide, bad, 0)
        for bad in STRANGE + [0, 301, "1", -1]:
            self.check_part(BadNumber, "width", alike_at, wide, wide, bad)
        for one, other in ((wide, X), (X, wide)):
            self.check(TooMany, {"what": "monomials", "most": 1000}, alike_at, one, other, 300)
        self.check(TooMany, {"what": "binomials", "most": 5000}, alike_at, shifted(power(X, 5001), 9), X, 1)
        self.check(TooMany, {"what": "monomials", "most": 1000}, alike_at, power(X, 5001), wide, 1)
        self.assertIs(alike_at(power(X, 5000), number(0), 1), False)
        self.assertIs(alike_at(power(X, 5001), power(X, 5001), 1), True)


class TestParting(Raises, unittest.TestCase):
    def test_against_all_words(self):
        terms = drawn(4, 160) + [power(X, 3), X, ("mul", X, X), ("neg", X), power(X, 4), ("mul", X, X), ("shl 3", Y), number(0)]
        for one, other in zip(terms[::2], terms[1::2]):
            most = 6 if len(names_in(("add", one, other))) < 2 else 4
            for least in range(1, most + 1):
                found = parting(one, other, least)
                self.assertTrue(has_no_list(found))
                slow = first_parting(one, other, least, most)
                if slow is not None:
                    self.assertEqual(found, slow)
                elif found is None:
                    self.assertEqual(polynomial(("sub", one, other)), ())
                else:
                    self.assertGreater(found[0], most)

    def test_one_name_at_each_least(self):
        rows = [balanced("mul", [("sub", X, number(index)) for index in range(many)]) for many in range(1, 9)]
        for row in rows:
            for least in range(1, 9):
                self.assertEqual(parting(row, number(0), least), first_parting(row, number(0), least, 9))

    def test_many_names(self):
        for one, other in zip(drawn(5, 60, [X, Y, Z, number(1), number(2)]), drawn(6, 60, [X, Z, number(4)])):
            found = parting(one, other)
            slow = first_parting(one, other, 1, 3)
            if slow is not None:
                self.assertEqual(found, slow)
            else:
                self.assertTrue(found is None or found[0] > 3)

    def test_names_that_fall_out(self):
        self.assertEqual(parting(("sub", X, X), ("add", Y, number(2))), (1, (("x", 0), ("y", 1))))
        self.assertEqual(parting(("sub", Z, Z), ("add", ("sub", Y, Y), number(2))), (2, (("y", 0), ("z", 0))))
        self.assertEqual(parting(("add", X, Y), ("add", Z, Y)), (1, (("x", 0), ("y", 0), ("z", 1))))
        self.assertIsNone(parting(("sub", X, X), ("sub", Y, Y)))

    def test_great_widths(self):
        for times in (299, 300, 301, 700):
            self.assertEqual(parting(shifted(X, times), number(0)), (times + 1, (("x", 1),)))
            self.assertEqual(parting(shifted(("mul", X, ("sub", X, number(1))), times), number(0), 8), (times + 2, (("x", 2),)))
        low = ("add", shifted(X, 5), shifted(Y, 3))
        self.assertEqual(parting(low, number(0)), (4, (("x", 0), ("y", 1))))
        self.assertEqual(parting(low, number(0), 6), (6, (("x", 0), ("y", 1))))
        self.assertEqual(parting(("mul", shifted(X, 9), ("mul", Y, shifted(Y, 9))), number(0)), (19, (("x", 1), ("y", 1))))

    def test_long_ways(self):
        self.assertEqual(parting(power(X, 5000), number(0)), (1, (("x", 1),)))
        # At even words both powers are 0 for long, at odd ones they are alike up to the width 11.
        unlike = [(w, x) for w in range(1, 13) for x in range(2 ** w) if (x ** 4096 - x ** 512) % 2 ** w]
        self.assertEqual(parting(power(X, 4096), power(X, 512)), (unlike[0][0], (("x", unlike[0][1]),)))
        row = balanced("mul", [("sub", X, number(index)) for index in range(9)])
        self.assertEqual(parting(row, number(0)), (8, (("x", 9),)))

    def falling(self, many):
        """The product x (x - 1) .. of so many factors, by exponent."""
        row = {0: 1}
        for index in range(many):
            row = {at: row.get(at - 1, 0) - index * row.get(at, 0) for at in range(index + 2)}
        return row

    def least_parting(self, row, most):
        """The least width from 1 on, and the least word, at which a polynomial of one name is not 0."""
        worths = {x: sum(many * x ** at for at, many in row.items()) for x in range(most + 1)}
        width = 1 + min((worth & -worth).bit_length() - 1 for worth in worths.values() if worth)
        return width, (("x", min(x for x, worth in worths.items() if worth % 2 ** width)),)

    def test_words_that_take_many_bits(self):
        # x (x - 1) .. is a multiple of 2 to the power of 78, beyond the first 64 bits.
        for many in (57, 58, 59, 60, 64, 66, 67, 70, 71, 72, 73, 82):
            for power_of_two in (None, 55, 61, 63):
                row = self.falling(many)
                if power_of_two is not None:
                    row[1] += 2 ** power_of_two
                found = parting_of({("x",) * at: times for at, times in row.items() if times}, ["x"], 1)
                self.assertEqual(found, self.least_parting(row, many))
        self.assertEqual(self.least_parting(self.falling(82), 82), (80, (("x", 82),)))

    def test_errors(self):
        wide = balanced("add", [X] * 1001)
        for bad in STRANGE + NO_SUMS:
            self.check_part(BadTerm, "one", parting, bad, bad, 0)
            self.check_part(BadTerm, "other", parting, wide, bad, 0)
        for bad in STRANGE + [0, 9, "1", -1]:
            self.check_part(BadNumber, "least", parting, wide, wide, bad)
        for one, other in ((wide, X), (X, wide), (wide, wide), (wide, power(X, 5001))):
            self.check(TooMany, {"what": "monomials", "most": 1000}, parting, one, other)

    def test_binomials(self):
        edge = ("add", power(X, 70), ("mul", power(X, 70), power(Y, 70)))
        self.assertIsNotNone(parting(edge, balanced("add", [power(Y, 29), number(1)])))
        refused = {"what": "binomials", "most": 5000}
        self.check(TooMany, refused, parting, edge, balanced("add", [power(Y, 29), X, number(1)]))
        self.check(TooMany, refused, parting, power(X, 5001), number(0), 8)
        # What is the same on both sides does not count.
        self.assertEqual(parting(("add", power(X, 5001), Y), power(X, 5001)), (1, (("x", 0), ("y", 1))))
        self.assertIsNone(parting(power(X, 5001), power(X, 5001)))

    def test_by_name(self):
        self.assertEqual(parting(other=as_lists(X), one=as_lists(("mul", X, X)), least=2), (2, (("x", 2),)))
        self.assertIs(alike_at(width=1, one=X, other=("mul", X, X)), True)


if __name__ == "__main__":
    unittest.main()
