"""Plain terms: what they mean, and their pieces."""

import random
import unittest
from helpers import FALSE, P, Q, STRANGE, TRUE, TRUTH_LABELS, X, Y, Z
from helpers import Draw, Raises, as_lists, has_no_list, name, number, worth
from slow_truths import Truth

from leastequal.errors import BadInput, BadNumber, BadTerm, NoName
from leastequal.plain import is_plain, pieces_of, plain_value
from leastequal.terms import put_in

PLAIN_WORDS = ["add", "sub", "neg", "flip", "and", "or", "xor", "shl 1", "shl 5", "shl 31", "if", "at"]
NO_TERMS = [*STRANGE, 3, "x", (), {}, ("neg", P), ("name", "true"), ("name", "#0"), ("add", X)]
NOT_PLAIN = [("mul", X, Y), ("mul", ("neg", number(3)), X), ("call f 0",), ("loop f 0", X, X), ("neg", ("mul", X, X)), ("at", ("call f 0", X))]


def plain_draw(rng, leaves=(X, Y, P, Q, TRUE, FALSE, number(3), number(-6), number(0)), many_reads=1):
    return Draw(rng, leaves, [*PLAIN_WORDS, *["at"] * (many_reads - 1), *TRUTH_LABELS])


class TestIsPlain(Raises, unittest.TestCase):
    def test_each_label(self):
        right = [
            number(3), X, P, TRUE, FALSE, *[(label, X, Y) for label in ("add", "sub", "and", "or", "xor", "eq", "lt", "less")],
            *[(label, X) for label in ("neg", "flip", "at", "shl 1", "shl 31")], ("if", P, X, Y), ("both", P, Q), ("either", P, TRUE),
            ("no", P), ("mul", X, number(3)), ("mul", number(-3), X), ("mul", number(0), number(0)), ("mul", number(2), ("mul", number(3), X)),
        ]
        for term in right:
            self.assertIs(is_plain(term), True, term)
            self.assertIs(is_plain(as_lists(term)), True, term)
        for term in [*NOT_PLAIN, ("eq", ("mul", X, Y), X), ("no", ("lt", X, ("loop f 0", X, X)))]:
            self.assertIs(is_plain(term), False, term)

    def test_no_term(self):
        for value in NO_TERMS:
            self.check_part(BadTerm, "term", is_plain, value)


class TestPlainValue(Raises, unittest.TestCase):
    def test_drawn_terms(self):
        rng = random.Random(41)
        draw = plain_draw(rng)
        for index in range(300):
            term = draw.term(("word", "truth")[index % 2], rng.randint(1, 40))
            if index % 3 == 0:
                term = ("mul", number(rng.randint(-9, 9)), term) if index % 2 == 0 else ("eq", ("mul", X, number(-5)), ("mul", number(7), Y))
            width = rng.choice([1, 2, 3, 8, 33, 300])
            words = {one: rng.randrange(2 ** width) for one in "xy"}
            flags = {one: rng.random() < 0.5 for one in "pq"}
            memory = {rng.randrange(2 ** min(width, 4)): rng.randrange(2 ** width) for _ in range(4)}
            told = {**{name(one): word for one, word in words.items()}, **{("flag", one): truth for one, truth in flags.items()}}
            found = plain_value(as_lists(term), width, list(words.items()), flags, memory)
            self.assertEqual(found, worth(term, width, told, memory), term)
            self.assertIs(type(found), bool if index % 2 else int)

    def test_any_integers(self):
        self.assertEqual(plain_value(("at", X), 4, {"x": -14}, {}, {2: 35, 18: 9, "x": 1, -1: 4}), 3)
        self.assertEqual(plain_value(X, 300, {"x": -1, 4: 5, "p": 3}, {"x": True, 1: False}, ()), 2 ** 300 - 1)
        self.assertEqual(plain_value(("if", ("flag", "x"), X, number(0)), 4, {"x": 5}, {"x": True}, {}), 5)

    def test_errors(self):
        for term in [*NO_TERMS, *NOT_PLAIN, ("both", P, X)]:
            self.check_part(BadTerm, "term", plain_value, term, None, None, None, None)
        for width in [0, 301, "4", *STRANGE]:
            self.check_part(BadNumber, "width", plain_value, X, width, None, None, None)
        for names in [*STRANGE, 3, "x", {"x": True}, {"x": "1"}, {None: 1}, [("x", 1), ("x", 1)], [("x",)], {"y": 1.0}]:
            self.check_part(BadInput, "names", plain_value, X, 4, names, None, None)
            self.check_part(BadInput, "memory", plain_value, X, 4, {}, {}, names)
        for flags in [*STRANGE, 3, "x", {"x": 1}, {"x": 0}, {"x": None}, {True: True}, [("p", True), ("p", True)], [(["p"], True)]]:
            self.check_part(BadInput, "flags", plain_value, X, 4, {}, flags, None)

    def test_the_first_missing_one_as_parts_end(self):
        term = ("if", ("both", ("lt", name("c"), name("b")), P), name("a"), ("neg", name("c")))
        for names, flags, missing in (
            ({}, {}, "c"), ({"c": 1}, {}, "b"), ({"b": 1}, {}, "c"), ({"c": 1, "b": 1}, {}, "p"), ({"c": 1, "b": 1, "p": 1}, {"c": True}, "p"),
            ({"c": 1, "b": 1}, {"p": True}, "a"), ({"a": 1, "c": 1}, {"p": True}, "b"),
        ):
            self.check(NoName, {"value": missing}, plain_value, term, 4, names, flags, {})
        self.assertEqual(plain_value(memory={}, flags={"p": True}, names={"a": 7, "b": 2, "c": 1}, width=4, term=term), 7)


class TestPieces(Raises, unittest.TestCase):
    def test_pieces_of_each_label(self):
        for term in (P, TRUE, FALSE):
            self.assertEqual(pieces_of(term), ((term,), ()))
        term = ("both", ("eq", ("add", X, X), ("mul", number(3), Y)), ("no", P))
        wanted = (X, ("add", X, X), number(3), Y, ("mul", number(3), Y), ("eq", ("add", X, X), ("mul", number(3), Y)), P, ("no", P), term)
        self.assertEqual(pieces_of(as_lists(term)), (wanted, ()))
        self.assertTrue(has_no_list(pieces_of(as_lists(term))))

    def test_reads(self):
        one, two = ("at", X), ("at", ("at", X))
        self.assertEqual(pieces_of(("eq", one, one)), ((X, name("#0"), ("eq", name("#0"), name("#0"))), (X,)))
        first, second = name("#0"), name("#1")
        pieces, addresses = pieces_of(("eq", two, one))
        self.assertEqual(addresses, (X, first))
        self.assertEqual(pieces, (X, first, second, ("eq", second, first), ("eq", X, first), ("eq", first, second)))
        pieces, addresses = pieces_of(("eq", ("add", one, Y), ("at", Y)))
        self.assertEqual(addresses, (X, Y))
        self.assertEqual(pieces, (X, first, Y, ("add", first, Y), second, ("eq", ("add", first, Y), second), ("eq", X, Y), ("eq", first, second)))

    def test_the_order_of_pairs(self):
        reads = [("at", name(one)) for one in "abc"]
        truth = ("both", ("eq", reads[0], reads[1]), ("lt", reads[2], name("b")))
        pieces, addresses = pieces_of(truth)
        a, b, c, r0, r1, r2 = [name(one) for one in ("a", "b", "c", "#0", "#1", "#2")]
        self.assertEqual(addresses, (a, b, c))
        wanted = [("eq", a, b), ("eq", a, c), ("eq", r0, r2), ("eq", b, c), ("eq", r1, r2)]
        self.assertEqual(list(pieces[-5:]), wanted)
        self.assertEqual(pieces[:9], (a, r0, b, r1, ("eq", r0, r1), c, r2, ("lt", r2, b), ("both", ("eq", r0, r1), ("lt", r2, b))))

    def test_drawn_truths(self):
        rng = random.Random(42)
        draw = plain_draw(rng, many_reads=8)
        many = 0
        for _ in range(200):
            truth = draw.term("truth", rng.randint(1, 50))
            slow = Truth(truth, 1)
            self.assertEqual(pieces_of(truth), (tuple(slow.pieces), tuple(slow.addresses)))
            many += len(slow.reads) > 1
        self.assertGreater(many, 20)

    def test_errors(self):
        for value in [*NO_TERMS, *NOT_PLAIN, X, number(0), ("add", X, Y), ("if", P, X, Y), ("eq", X, ("mul", X, Y)), ("eq", ("call f 0",), X)]:
            self.check_part(BadTerm, "truth", pieces_of, value)
        self.assertEqual(pieces_of(truth=P), ((P,), ()))

    def test_great_ones(self):
        term = X
        for levels in range(11):
            term = ("xor", term, put_in(term, {"x": ("add", X, number(levels))}))
        pieces, addresses = pieces_of(("eq", term, Z))
        self.assertEqual((len(set(pieces)) == len(pieces), addresses), (True, ()))


if __name__ == "__main__":
    unittest.main()
