"""The plain form of two terms."""

import random
import unittest

from helpers import (
    FALSE, P, Q, STRANGE, TRUE, X, Y, Z, DrawCalls, Raises, all_told, as_lists, flag, has_no_list, kind, name, number, subterms, worth,
)
from leastequal.errors import BadTerm, Misfit, TooMany
from leastequal.plain import is_plain
from leastequal.program import Function
from leastequal.rules import plain_form
from leastequal.terms import put_in
from slow_rules import SlowForm, balanced, shifted

UP = Function("up", ["i"], [("add", ("name", "i"), number(1))])
PAIR = Function("pair", ["a", "b"], [("mul", name("a"), name("b")), ("at", name("a"))])
ONE = Function("one", [], [number(3)])
LABELS = [
    "add", "sub", "mul", "mul", "mul", "and", "or", "xor", "neg", "flip", "shl 1", "shl 3", "at", "if", "eq", "lt", "less",
    "both", "either", "no",
]
LEAVES = [X, Y, P, TRUE, number(0), number(1), number(2), number(-3)]
XY, XX = ("mul", X, Y), ("mul", X, X)
P0, P1, P2 = name("p0"), name("p1"), name("p2")
BOUND = {"what": "number", "most": 2147483647}
SPREAD = {"what": "monomials", "most": 1000}


def drawn(seed, many, size):
    rng = random.Random(seed)
    draw = DrawCalls(rng, LEAVES, LABELS, [UP, PAIR, ONE])
    for _ in range(many):
        wanted = rng.choice(["word", "word", "truth"])
        yield draw.term(wanted, rng.randint(1, size)), draw.term(wanted, rng.randint(1, size))


def without_new_names(truth, stands):
    """The truth with what the new names stand for in their place."""
    for spelling, term in reversed(stands):
        truth = put_in(truth, {spelling: term})
    return truth


class TestLabels(Raises, unittest.TestCase):
    def form(self, left, right, truth, stands=()):
        self.assertEqual(plain_form(left, right), (truth, stands))
        self.assertTrue(is_plain(truth))

    def word(self, left, made, stands=()):
        self.form(left, Z, ("eq", made, Z), stands)

    def test_truths(self):
        for one in (P, TRUE, FALSE, ("eq", X, Y), ("lt", X, Y), ("less", X, Y), ("both", P, Q), ("either", P, Q), ("no", P)):
            for other in (Q, ("no", Q)):
                self.form(one, other, ("either", ("both", one, other), ("both", ("no", one), ("no", other))))

    def test_words_that_stay(self):
        for one in (X, number(5), ("and", X, Y), ("or", X, Y), ("xor", X, Y), ("flip", X), ("at", X), ("if", P, X, Y)):
            self.word(one, one)
        for one in (("add", X, X), ("sub", X, ("neg", X)), ("shl 3", ("add", X, number(0))), ("mul", number(2), number(3)), ("mul", X, number(0))):
            self.word(one, one)
            self.word(("flip", one), ("flip", one))
        deep = ("mul", ("sub", ("mul", number(2), ("and", X, number(1))), ("shl 2", Y)), number(-7))
        self.word(deep, deep)

    def test_parts_are_made(self):
        made = {"and": 2, "or": 2, "xor": 2, "flip": 1, "at": 1, "eq": 2, "lt": 2, "less": 2}
        for label, many in made.items():
            one = (label, *[XY] * many)
            if kind(one) == "word":
                self.word(one, (label, *[P0] * many), (("p0", XY),))
            else:
                self.word(("if", one, X, Y), ("if", (label, *[P0] * many), X, Y), (("p0", XY),))
        truth = ("no", ("both", ("eq", XY, Z), ("either", P, ("lt", XX, XY))))
        plain = ("no", ("both", ("eq", P0, Z), ("either", P, ("lt", P1, P0))))
        self.word(("if", truth, XX, X), ("if", plain, P1, X), (("p0", XY), ("p1", XX)))

    def test_calls_and_loops(self):
        call, loop = ("call f 0", XY, ("call g 1",)), ("loop f 0", X, ("call g 1",))
        stands = (("p0", XY), ("p1", ("call g 1",)), ("p2", ("call f 0", P0, P1)))
        self.word(call, P2, stands)
        self.word(("and", call, call), ("and", P2, P2), stands)
        self.word(("add", call, loop), ("add", P2, name("p3")), (*stands, ("p3", ("loop f 0", X, P1))))
        self.word(("mul", ("call g 0",), number(3)), ("mul", P0, number(3)), (("p0", ("call g 0",)),))
        unlike = ("and", ("call f 0", X), ("and", ("call f 1", X), ("and", ("loop f 0", X, X), ("call f 0", X))))
        made = ("and", P0, ("and", P1, ("and", P2, P0)))
        self.word(unlike, made, (("p0", ("call f 0", X)), ("p1", ("call f 1", X)), ("p2", ("loop f 0", X, X))))
        # What is made of parts is what counts: both calls are of a number p0.
        self.word(("xor", ("call f 0", XY), ("call f 0", ("mul", Y, X))), ("xor", P1, P1), (("p0", XY), ("p1", ("call f 0", P0))))

    def test_products(self):
        self.word(XY, P0, (("p0", XY),))
        self.word(("mul", Y, ("mul", X, Y)), P0, (("p0", ("mul", XY, Y)),))
        self.word(("mul", X, ("add", number(2), number(3))), ("mul", number(5), X))
        self.word(("mul", ("add", X, number(1)), ("sub", number(2), number(1))), ("add", number(1), X))
        self.word(("mul", ("sub", X, X), Y), number(0))
        self.word(("sub", XX, XX), number(0))
        self.word(("mul", ("neg", number(2)), ("shl 3", number(5))), number(-80))
        self.word(("mul", ("add", number(1), number(0)), X), X)
        self.word(("sub", ("mul", X, ("add", X, Y)), ("mul", X, X)), P0, (("p0", XY),))
        self.word(("neg", XY), ("mul", number(-1), P0), (("p0", XY),))
        # With a written number somewhere, but also a mul without one, all becomes the polynomial.
        self.word(("add", XX, ("mul", number(2), ("add", X, X))), ("add", ("mul", number(4), X), P0), (("p0", XX),))

    def test_joined_from_the_left(self):
        whole = ("mul", ("add", X, number(3)), ("sub", Y, ("and", X, Y)))
        both = ("and", X, Y)
        made = [("mul", number(-3), both), P0, P1, ("mul", number(3), Y)]
        stands = (("p0", ("mul", both, X)), ("p1", XY))
        made[1] = ("mul", number(-1), P0)
        self.word(whole, ("add", ("add", ("add", made[0], made[1]), P1), made[3]), stands)
        one = ("mul", ("add", X, number(1)), ("add", X, number(1)))
        self.word(one, ("add", ("add", number(1), ("mul", number(2), X)), P0), (("p0", XX),))

    def test_atoms(self):
        at, choice = ("at", XY), ("if", P, X, Y)
        self.word(("mul", at, ("mul", choice, at)), P1, (("p0", XY), ("p1", ("mul", ("mul", ("at", P0), ("at", P0)), choice))))
        self.word(("mul", ("call f 0", X), ("call f 0", X)), P1, (("p0", ("call f 0", X)), ("p1", ("mul", P0, P0))))
        self.word(("add", ("and", XY, Y), X), ("add", ("and", P0, Y), X), (("p0", XY),))

    def test_order_of_new_names(self):
        left = ("and", XY, ("call f 0", XX))
        self.form(left, ("or", ("call f 0", XX), XX), ("eq", ("and", P0, P2), ("or", P2, P1)), (("p0", XY), ("p1", XX), ("p2", ("call f 0", P1))))
        both = ("mul", ("add", X, Y), ("add", X, Y))
        self.word(both, ("add", ("add", P0, ("mul", number(2), P1)), P2), (("p0", XX), ("p1", XY), ("p2", ("mul", Y, Y))))
        self.form(number(1), XY, ("eq", number(1), P0), (("p0", XY),))

    def test_names_that_are_left_out(self):
        left = ("and", ("if", flag("p1"), XY, name("p0")), ("mul", ("call f 0", name("p3")), XX))
        made = ("and", ("if", flag("p1"), name("p4"), name("p0")), name("p6"))
        self.assertEqual(plain_form(left, name("p2"))[0], ("eq", made, name("p2")))
        self.assertEqual([pair[0] for pair in plain_form(left, name("p2"))[1]], ["p4", "p5", "p6"])
        self.assertEqual(plain_form(("and", name("p00"), XY), name("p1"))[0], ("eq", ("and", name("p00"), P0), name("p1")))
        self.assertEqual(plain_form(("mul", P0, X), name("pp")), (("eq", P1, name("pp")), (("p1", ("mul", P0, X)),)))

    def test_number_bounds(self):
        rim = 2147483647
        for many in (rim, -rim):
            self.word(("mul", ("sub", number(many), number(0)), ("sub", X, X)), number(0))
            self.word(("mul", ("sub", number(many), number(0)), ("add", X, number(0))), ("mul", number(many), X))
            self.word(("add", XY, ("sub", number(many), XY)), number(many))
            one = 1 if many > 0 else -1
            beyond = [
                ("mul", ("add", number(many), number(one)), ("add", X, number(0))),
                ("add", ("sub", XY, XY), ("add", number(many), number(one))),
                ("sub", ("add", XY, ("mul", number(many), XY)), ("mul", number(-one), XY) if one < 0 else number(0)),
            ]
            for term in beyond[:2]:
                self.check(TooMany, BOUND, plain_form, term, X)
                self.check(TooMany, BOUND, plain_form, X, ("flip", ("at", term)))
        self.check(TooMany, BOUND, plain_form, ("mul", shifted(X, 31), X), X)
        self.word(("mul", shifted(X, 30), X), ("mul", number(2 ** 30), P0), (("p0", XX),))
        self.word(shifted(number(rim), 90), shifted(number(rim), 90))

    def test_too_many_products(self):
        ten = balanced("add", [name(f"a{index}") for index in range(10)])
        edge = ("mul", ten, ("mul", ten, ten))
        self.assertEqual(len(plain_form(edge, X)[1]), 220)
        over = ("add", edge, X)
        great = ("mul", shifted(X, 40), X)
        for left, right in ((over, X), (X, over), (great, ("at", over)), (("at", over), great), (("and", great, over), X), (X, ("call f 0", ("xor", great, over)))):
            self.check(TooMany, SPREAD, plain_form, left, right)
        # Atoms count once, and sums without a free product are not counted.
        self.assertEqual(len(plain_form(("mul", ("flip", edge), edge), X)[1]), 220 + 220)
        wide = balanced("add", [X] * 1001)
        self.word(wide, wide)
        self.word(("mul", number(2), wide), ("mul", number(2), wide))
        self.check(TooMany, SPREAD, plain_form, ("mul", wide, ("neg", X)), X)


class TestDeepForms(unittest.TestCase):
    def test_atoms_that_are_deep(self):
        # What is made of a thousand products has a thousand levels, one within the other.
        first = [name(f"a{index}") for index in range(25)]
        second = balanced("add", [name(f"b{index}") for index in range(40)])
        one = ("flip", ("mul", balanced("add", first), second))
        other = ("flip", ("mul", balanced("add", [name("a00")] + first[1:]), second))
        for factors, many in (((one, one), 1000 + 1), ((one, other), 1000 + 40 + 1), ((other, one), 1000 + 40 + 1)):
            truth, stands = plain_form(("mul", *factors), X)
            self.assertEqual((truth[0], truth[1], truth[2], len(stands)), ("eq", name(stands[-1][0]), X, many))
            mul, left, right = stands[-1][1]
            self.assertEqual((mul, left[0], right[0]), ("mul", "flip", "flip"))
            # The new names tell which atom comes first: "p0" is ahead of "p1000".
            wanted = ["p0", "p0" if factors[0] == factors[1] else "p1000"]
            self.assertEqual([self.innermost(side) for side in (left, right)], wanted)

    def innermost(self, term):
        """The first name in a term."""
        while term[0] != "name":
            term = term[1]
        return term[1]


class TestDrawn(Raises, unittest.TestCase):
    def test_against_the_slow_form(self):
        seen = 0
        for left, right in drawn(11, 700, 24):
            slow = SlowForm(left, right)
            self.assertFalse(slow.too_many or slow.too_great)
            truth, stands = plain_form(left, right)
            self.assertEqual((truth, list(stands)), (slow.truth, slow.stands))
            self.assertTrue(is_plain(truth))
            self.assertTrue(has_no_list((truth, stands)))
            seen += len(stands)
        self.assertGreater(seen, 500)

    def test_has_the_value_of_both(self):
        rng = random.Random(12)
        for left, right in drawn(13, 150, 12):
            truth, stands = plain_form(left, right)
            whole = without_new_names(truth, stands)
            leaves = [leaf for leaf in (X, Y, P) if leaf in subterms(left) + subterms(right)]
            for width in (1, 2):
                for told in all_told(leaves, width):
                    memory = {address: rng.randrange(2 ** width) for address in range(2 ** width)}
                    values = [worth(term, width, {**told}, memory, [UP, PAIR, ONE], 3) for term in (left, right, whole)]
                    self.assertIs(values[2], values[0] == values[1])


class TestErrors(Raises, unittest.TestCase):
    def test_errors(self):
        for bad in STRANGE + [5, "x", (), ("add", X), ("name", "true")]:
            self.check_part(BadTerm, "left", plain_form, bad, bad)
            self.check_part(BadTerm, "right", plain_form, X, bad)
        over = balanced("mul", [balanced("add", [X] * 40)] * 2)
        for left, right in ((over, P), (P, over), (("lt", over, X), X), (X, TRUE)):
            self.check_part(Misfit, "kind", plain_form, left, right)
        self.check(TooMany, SPREAD, plain_form, over, X)

    def test_lists(self):
        left = ("and", XY, ("call f 0", XX))
        self.assertEqual(plain_form(right=as_lists(X), left=as_lists(left)), plain_form(left, X))


if __name__ == "__main__":
    unittest.main()
