"""Terms: what they are, what they have, and how parts are exchanged."""

import random
import unittest
from helpers import FALSE, P, Q, STRANGE, TRUE, TRUTH_LABELS, WORD_LABELS, X, Y, Z
from helpers import Draw, Raises, as_lists, has_no_list, kind, number, parts, subterms

from leastequal.errors import BadInput, BadNumber, BadTerm, Misfit
from leastequal.terms import flags_in, is_term, is_word, levels_of, names_in, part_at, places_of, put_in, size_of
from leastequal.terms import with_part

MOST = 2147483647
WORD_LEAVES = [number(0), number(MOST), number(-MOST), ("name", "a"), ("name", "x2345678"), ("name", "truer")]
TRUTH_LEAVES = [("flag", "p"), ("flag", "z9999999"), ("flag", "true"), ("flag", "false"), TRUE, FALSE]
NO_LEAVES = [
    number(MOST + 1), number(-MOST - 1), number(10 ** 99), number(True), number(False), number("1"), number(1.0),
    number(None), number([1]), ("number",), ("number", 1, 2), ("name",), ("name", "x", "y"), ("flag",), ("true", 1),
    ("false", TRUE), ("true", ()), ("name", "true"), ("name", "false"), ("name", ("x",)), ("name", 1), ("name", None),
    ("name", b"x"), ("name", ["x"]), ("flag", P), ("flag", True),
]
NO_SPELLINGS = ["", "x23456789", "X", "xY", "1x", "_x", "x_", "x y", " x", "x ", "?p", "#0", "\u00e9", "x\u0661", "x\n"]
NO_LABELS = [
    "", "ADD", "add ", "plus", "not", "shl", "shl 0", "shl 32", "shl 01", "shl  1", "shl k", "call", "call f",
    "call f ", "call f 6", "call f -1", "call f 00", "call f 01", "call  f 0", "call f  0", "call f 0 ", " call f 0",
    "call F 0", "call 1f 0", "call f x", "call f23456789 0", "loop f", "loop f 6", "loop f  0", "calls f 0",
    "number", "name", "flag", "call f \u0661",
]
WORD_ONE = ["neg", "flip", "at", "shl 1", "shl 31"]
WORD_TWO = ["add", "sub", "mul", "and", "or", "xor"]
TRUTH_TWO = ["eq", "lt", "less"]


def deep(levels):
    term = X
    for _ in range(levels - 1):
        term = ("neg", term)
    return term


def broad(levels):
    return X if levels == 1 else ("add", broad(levels - 1), broad(levels - 1))


def drawn(seed, many):
    rng = random.Random(seed)
    leaves = [X, Y, Z, P, Q, ("flag", "x"), TRUE, FALSE, number(-7), number(3), ("call f 0",)]
    draw = Draw(rng, leaves[:-1], [*WORD_LABELS, *TRUTH_LABELS])
    for index in range(many):
        yield draw.term(("word", "truth")[index % 2], rng.randint(1, 40))


class TestIsTerm(unittest.TestCase):
    def are(self, wanted, *values):
        for value in values:
            self.assertIs(is_term(value), wanted, value)
            self.assertIs(is_term(as_lists(value)), wanted, value)

    def test_leaves(self):
        self.are(True, *WORD_LEAVES, *TRUTH_LEAVES)
        self.are(False, *NO_LEAVES)

    def test_spellings(self):
        self.are(False, *[(leaf, spelling) for leaf in ("name", "flag") for spelling in NO_SPELLINGS])
        self.are(True, *[(leaf, "abcdefgh"[:many]) for leaf in ("name", "flag") for many in range(1, 9)])

    def test_labels(self):
        for label in WORD_ONE:
            self.are(True, (label, X), (label, number(3)), (label, ("call f 0",)))
            self.are(False, (label,), (label, X, Y), (label, P), (label, TRUE), (label, ("eq", X, Y)))
        for label in WORD_TWO + TRUTH_TWO:
            self.are(True, (label, X, Y), (label, ("neg", X), number(3)))
            self.are(False, (label,), (label, X), (label, X, Y, Z), (label, P, X), (label, X, P), (label, P, Q))
        for label in ("both", "either"):
            self.are(True, (label, P, Q), (label, ("eq", X, Y), TRUE))
            self.are(False, (label, P), (label, P, Q, P), (label, P, X), (label, X, P))
        self.are(True, ("no", P), ("no", ("no", FALSE)), ("if", P, X, Y), ("if", ("lt", X, Y), X, number(0)))
        self.are(False, ("no", X), ("no",), ("no", P, Q), ("if", X, X, Y), ("if", P, P, Y), ("if", P, X, Q), ("if", P, X))
        self.are(False, *[(label, X) for label in NO_LABELS], *[(label, X, Y) for label in NO_LABELS])

    def test_calls_and_loops(self):
        for many in range(10):
            self.are(many <= 6, ("call f 0", *[X] * many))
            self.are(2 <= many <= 7, ("loop f 0", *[X] * many))
        for index in range(6):
            self.are(True, (f"call f2345678 {index}", X), (f"loop f2345678 {index}", X, Y))
        self.are(True, ("call true 0",), ("loop false 5", X, Y), ("call call 0",))
        self.are(False, ("call f 0", P), ("call f 0", X, TRUE), ("loop f 0", P, X), ("loop f 0", X, Q))

    def test_nothing_else(self):
        self.are(False, (), ((),), ("x",), (1, X), (None, X), (True,), ((("neg",),), X), (["neg"], X), (b"neg", X))
        self.are(False, ("neg", "x"), ("neg", 3), ("neg", None), ("neg", ()), ("add", X, [Y]), ("neg", {}))
        for value in [*STRANGE, 0, "x", "neg", {}, {"name": "x"}, {0: "name", 1: "x"}, [X], [[X]], ["neg", {0: "x"}]]:
            self.assertIs(is_term(value), False)

    def test_lists_anywhere(self):
        self.assertIs(is_term(["add", ("neg", ["name", "x"]), ["number", 3]]), True)
        self.assertIs(is_term(("if", ["eq", X, ["name", "y"]], X, Y)), True)

    def test_a_wrong_part_deep_inside(self):
        for levels in (2, 40, 98):
            self.are(True, deep(levels))
            term, other = P, ("number", True)
            for _ in range(levels - 1):
                term, other = ("neg", term), ("neg", other)
            self.are(False, term, other)

    def test_great_ones(self):
        self.are(True, deep(99), broad(12))
        wide = ("call f 0", *[broad(10)] * 6)
        self.are(True, wide)
        self.are(False, (*wide[:-1], ("add", broad(9), P)))


class TestOfATerm(Raises, unittest.TestCase):
    def test_is_word(self):
        for term in [*WORD_LEAVES, ("if", P, X, Y), ("at", X), ("call f 0",), ("loop f 0", X, Y), ("shl 3", X)]:
            self.assertIs(is_word(term), True)
        for term in [*TRUTH_LEAVES, ("eq", X, Y), ("less", X, Y), ("both", P, Q), ("no", P)]:
            self.assertIs(is_word(term), False)

    def test_sizes_and_levels(self):
        for term in drawn(2, 60):
            every = subterms(term)
            self.assertEqual(size_of(term), len(every))
            self.assertEqual(levels_of(term), self.levels(term))
            self.assertIs(is_word(as_lists(term)), kind(term) == "word")
        self.assertEqual([size_of(("call f 0",)), levels_of(("call f 0",)), levels_of(("call f 0", X))], [1, 1, 2])
        self.assertEqual([size_of(deep(99)), levels_of(deep(99)), size_of(broad(12)), levels_of(broad(12))], [99, 99, 4095, 12])

    def levels(self, term):
        return 1 + max([self.levels(part) for part in parts(term)], default=0)

    def test_names_and_flags(self):
        term = ("if", ("both", Q, P), ("add", Z, X), ("add", X, ("if", ("flag", "x"), ("name", "a1"), ("name", "b"))))
        self.assertEqual(names_in(term), ("a1", "b", "x", "z"))
        self.assertEqual(flags_in(term), ("p", "q", "x"))
        self.assertEqual((names_in(P), flags_in(X), names_in(TRUE), flags_in(number(1))), ((), (), (), ()))
        self.assertEqual(names_in(("call f 0", Y, X)), ("x", "y"))

    def test_places(self):
        for term in drawn(3, 60):
            places = places_of(term)
            self.assertEqual(list(places), sorted(set(places)))
            self.assertEqual([part_at(term, place) for place in places], subterms(term))
        self.assertEqual(places_of(X), ((),))
        self.assertEqual(places_of(("call f 0",)), ((),))
        self.assertEqual(places_of(["no", ["eq", X, Y]]), ((), (0,), (0, 0), (0, 1)))

    def test_no_term(self):
        for action in (is_word, size_of, levels_of, names_in, flags_in, places_of):
            for value in [*STRANGE, 3, "x", {}, (), ("add", X), ("neg", P), ["name", "true"]]:
                self.check_part(BadTerm, "term", action, value)
            self.check_part(BadTerm, "term", action, term=("number", MOST + 1))


class TestPutIn(Raises, unittest.TestCase):
    def test_a_dict_and_pairs(self):
        term = ("if", ("eq", X, Y), X, Z)
        wanted = ("if", ("eq", ("neg", Y), Y), ("neg", Y), number(1))
        for values in ({"x": ("neg", Y), "z": number(1)}, [("x", ("neg", Y)), ("z", number(1))], (["x", ["neg", Y]], ("z", ["number", 1]))):
            told = put_in(as_lists(term), values)
            self.assertEqual(told, wanted)
            self.assertTrue(has_no_list(told))

    def test_all_at_once(self):
        term = ("add", X, ("mul", Y, Z))
        self.assertEqual(put_in(term, {"x": Y, "y": Z, "z": X}), ("add", Y, ("mul", Z, X)))
        self.assertEqual(put_in(term, {"x": ("neg", X)}), ("add", ("neg", X), ("mul", Y, Z)))
        self.assertEqual(put_in(("both", P, Q), {"p": Q, "q": ("no", P)}), ("both", Q, ("no", P)))

    def test_a_spelling_that_a_name_and_a_flag_share(self):
        term = ("if", ("flag", "x"), X, ("neg", X))
        self.assertEqual(put_in(term, {"x": number(1)}), ("if", ("flag", "x"), number(1), ("neg", number(1))))
        self.assertEqual(put_in(term, {"x": TRUE}), ("if", TRUE, X, ("neg", X)))
        self.assertEqual(put_in(P, {"p": X}), P)
        self.assertEqual(put_in(X, {"x": P}), X)

    def test_others_stay(self):
        for term in (X, P, TRUE, number(5), ("call x 0",), ("loop x 0", number(1), number(2))):
            self.assertEqual(put_in(term, {}), term)
            self.assertEqual(put_in(term, [("zz", X), ("true", Y), ("false", P)]), term)
        self.assertEqual(put_in(("call x 0", X), {"x": Y}), ("call x 0", Y))

    def test_errors(self):
        self.check_part(BadTerm, "term", put_in, ("neg", P), {})
        self.check_part(BadTerm, "term", put_in, "x", None)
        wrong = [
            *STRANGE, 3, "x", [X], [("x",)], [("x", X, Y)], {"x": 3}, {"x": "y"}, {"x": ("neg", P)}, {"x": ()},
            [("x", X), ("x", X)], [("x", X), ("x", P)], {1: X}, {None: X}, {("x",): X}, [(["x"], X)], {True: X},
        ]
        for values in [*wrong, *[{spelling: X} for spelling in NO_SPELLINGS], *[{spelling: P} for spelling in NO_SPELLINGS]]:
            self.check_part(BadInput, "values", put_in, X, values)

    def test_what_is_passed_is_not_changed(self):
        term, values = ["add", ["name", "x"], ["name", "y"]], {"x": ["neg", ["name", "y"]]}
        told = put_in(term, values)
        self.assertEqual((term, values), (["add", ["name", "x"], ["name", "y"]], {"x": ["neg", ["name", "y"]]}))
        values["x"].append(3)
        self.assertEqual(told, ("add", ("neg", Y), Y))

    def test_great_ones(self):
        self.assertEqual(size_of(put_in(broad(11), {"x": ("neg", X)})), 1023 + 2 * 1024)
        self.assertEqual(levels_of(put_in(deep(90), {"x": deep(90)})), 179)


class TestPlaces(Raises, unittest.TestCase):
    def test_part_at(self):
        term = ["if", ["eq", X, ["number", 3]], ["neg", X], Y]
        self.assertEqual(part_at(term, ()), ("if", ("eq", X, number(3)), ("neg", X), Y))
        self.assertEqual(part_at(term, [0, 1]), number(3))
        self.assertEqual(part_at(term, (1,)), ("neg", X))
        self.assertEqual(part_at(place=(2,), term=term), Y)
        self.assertEqual(part_at(deep(99), [0] * 98), X)

    def test_with_part(self):
        for term in drawn(4, 40):
            for place, part in zip(places_of(term), subterms(term)):
                other = Z if kind(part) == "word" else ("no", Q)
                made = with_part(term, list(place), as_lists(other))
                self.assertTrue(has_no_list(made))
                self.assertEqual(part_at(made, place), other)
                self.assertEqual(with_part(made, place, part), term)
        self.assertEqual(with_part(X, (), Y), Y)
        self.assertEqual(with_part(P, [], TRUE), TRUE)
        self.assertEqual(with_part(("call f 0", X, Y), [1], Z), ("call f 0", X, Z))
        self.assertEqual(levels_of(with_part(deep(99), [0] * 98, deep(3))), 101)

    def test_no_place_at_all(self):
        for place in [*STRANGE, 0, "0", {}, [-1], [0, -1], [True], [False], [1.0], ["0"], [[0]], [(0,)], [None]]:
            self.check_part(BadNumber, "place", part_at, ("neg", X), place)
            self.check_part(BadNumber, "place", with_part, ("neg", X), place, X)
            self.check_part(BadNumber, "place", with_part, ("neg", X), place, "no term")

    def test_no_such_place(self):
        term = ("add", ("neg", X), ("call f 0",))
        for place in [[2], (0, 1), (0, 0, 0), (1, 0), [10 ** 99], (0, 0, 0, 0, 0)]:
            self.check_part(Misfit, "place", part_at, term, place)
            self.check_part(Misfit, "place", with_part, term, place, X)
            self.check_part(Misfit, "place", with_part, term, place, P)
            self.check_part(BadTerm, "other", with_part, term, place, ("neg", P))

    def test_no_other(self):
        for other in [*STRANGE, 3, "x", {}, (), ("neg", P), ("name", "true")]:
            self.check_part(BadTerm, "other", with_part, ("neg", X), [0], other)

    def test_kinds(self):
        self.check_part(Misfit, "kind", with_part, ("neg", X), (), P)
        self.check_part(Misfit, "kind", with_part, ("no", P), [], X)
        self.check_part(Misfit, "kind", with_part, ("if", P, X, Y), [0], Y)
        self.check_part(Misfit, "kind", with_part, ("if", P, X, Y), [1], Q)

    def test_the_term_is_looked_at_first(self):
        for value in [*STRANGE, 3, "x", (), ("neg", P)]:
            self.check_part(BadTerm, "term", part_at, value, "no place")
            self.check_part(BadTerm, "term", with_part, value, "no place", "no term")


if __name__ == "__main__":
    unittest.main()
