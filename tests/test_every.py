"""Truths that hold at every width from a least one on, and the papers that show it."""

import random
import time
import unittest
from helpers import FALSE, P, Q, STRANGE, TRUE, X, Y, Raises, as_lists, has_no_list, number, subterms
from slow_truths import Truth, fails_at, is_false, leaves_of, memory_is_read
from test_plain import NO_TERMS, NOT_PLAIN, plain_draw

from leastequal.check_every import shows_fails, shows_holds
from leastequal.errors import BadNumber, BadTerm, TooMany
from leastequal.every import Fails, Holds, holds, weight_of
from leastequal.term_texts import read_term, term_text

# Truths that hold at every width, and some that hold at every width from the told one on.
RIGHT = [
    ("true", 1), ("( eq x x )", 1), ("( either ?p ( no ?p ) )", 1), ("( eq ( add x y ) ( add y x ) )", 1),
    ("( eq ( add ( add x y ) z ) ( add x ( add y z ) ) )", 1), ("( eq ( sub x y ) ( add x ( neg y ) ) )", 1),
    ("( eq ( neg x ) ( add ( flip x ) 1 ) )", 1), ("( eq ( shl 2 x ) ( mul x 4 ) )", 1), ("( eq ( mul -3 x ) ( neg ( mul x 3 ) ) )", 1),
    ("( eq ( mul x 0 ) 0 )", 1), ("( eq ( flip ( and x y ) ) ( or ( flip x ) ( flip y ) ) )", 1),
    ("( eq ( add x y ) ( add ( xor x y ) ( shl 1 ( and x y ) ) ) )", 1), ("( eq ( if ?p x x ) x )", 1),
    ("( eq ( if ( eq x y ) x y ) y )", 1), ("( no ( lt x 0 ) )", 1), ("( either ( lt x y ) ( either ( lt y x ) ( eq x y ) ) )", 1),
    ("( either ( less x y ) ( either ( less y x ) ( eq x y ) ) )", 1), ("( no ( both ( less x y ) ( less y x ) ) )", 1),
    ("( eq ( at x ) ( at x ) )", 1), ("( either ( no ( eq x y ) ) ( eq ( at x ) ( at y ) ) )", 1),
    ("( eq ( at ( add x 0 ) ) ( at x ) )", 1), ("( either ( no ( eq ( at x ) x ) ) ( eq ( at ( at x ) ) x ) )", 1),
    ("( no ( eq 2 0 ) )", 2), ("( no ( eq 5 1 ) )", 3), ("( lt 3 200 )", 8), ("( less 3 100 )", 8), ("( less -128 127 )", 8),
    ("( eq ( shl 6 1 ) 64 )", 1), ("( less -5 ( if ?p 3 2 ) )", 4), ("( eq 0 0 )", 8),
]
# Truths that do not hold, the least, and the least width from it on at which they are False.
WRONG = [
    ("false", 1, 1), ("false", 8, 8), ("?p", 3, 3), ("( eq x 0 )", 1, 1), ("( eq 2 0 )", 1, 2), ("( eq 2 0 )", 2, 2), ("( eq 256 0 )", 1, 9),
    ("( eq 32768 0 )", 1, 16), ("( eq -32768 0 )", 3, 16), ("( no ( eq 2 0 ) )", 1, 1), ("( less 0 3 )", 1, 1), ("( less 0 3 )", 3, None),
    ("( eq ( shl 1 x ) 0 )", 1, 2), ("( eq ( shl 4 x ) 0 )", 1, 5), ("( eq ( mul x 12 ) 0 )", 1, 3), ("( eq ( mul x -4 ) 0 )", 2, 3),
    ("( eq ( at x ) ( at y ) )", 1, 1), ("( eq ( at ( at x ) ) x )", 1, 1), ("( eq ( neg x ) x )", 1, 2), ("( eq ( add x x ) 0 )", 1, 2),
    ("( lt x ( add x 1 ) )", 1, 1), ("( either ( lt x y ) ( less y x ) )", 1, 1), ("( eq ( if ?p x y ) x )", 4, 4), ("( either ?p ?q )", 1, 1),
    ("( eq ( and x 1 ) ( at 0 ) )", 2, 2), ("( eq ( mul x 16 ) ( shl 2 y ) )", 1, 3),
]


def drawn(seed, many, leaves, most=14, many_reads=1, reads=0):
    rng = random.Random(seed)
    draw = plain_draw(rng, leaves, many_reads)
    found = []
    while len(found) < many:
        truth = draw.term("truth", rng.randint(2, most))
        slow = Truth(truth, 1)
        if len(slow.names) <= 4 and slow.weight() <= 256 and slow.depth <= 16 and len(slow.reads) >= reads:
            found.append((rng, truth, rng.choice([1, 1, 1, 2, 3, 8])))
    return found


class TestWeight(Raises, unittest.TestCase):
    def test_each_label(self):
        table = [
            ("?p", 2), ("true", 1), ("( no ?p )", 2), ("( both ?p ?q )", 4), ("( either ?p ?p )", 2), ("( eq x y )", 2), ("( lt x 3 )", 2),
            ("( less x y )", 4), ("( eq x ( add x y ) )", 4), ("( eq x ( sub x y ) )", 4), ("( eq x ( neg y ) )", 4), ("( eq x ( flip y ) )", 2),
            ("( eq x ( and ( or x y ) ( xor x y ) ) )", 2), ("( eq x ( shl 1 x ) )", 4), ("( eq x ( shl 7 x ) )", 256),
            ("( eq x ( shl 31 ( shl 31 x ) ) )", 2 ** 63), ("( eq x ( mul x 5 ) )", 10), ("( eq x ( mul 5 x ) )", 10), ("( eq x ( mul x 1 ) )", 2),
            ("( eq x ( mul x 0 ) )", 2), ("( eq x ( mul -1 x ) )", 4), ("( eq x ( mul x -5 ) )", 12), ("( eq x ( mul 5 3 ) )", 6),
            ("( eq x ( mul ( mul x 3 ) 3 ) )", 18), ("( eq ( add x y ) ( add x y ) )", 4), ("( eq ( add x y ) ( add y x ) )", 8),
            ("( eq x ( if ( eq x y ) x y ) )", 8), ("( eq x ( if ?p x y ) )", 4), ("( eq x ( if ( no ?p ) x y ) )", 8), ("( eq x ( if true x y ) )", 4),
            ("( eq x ( at y ) )", 2), ("( eq ( at x ) ( at y ) )", 4), ("( eq ( at x ) ( at ( at x ) ) )", 4),
            ("( eq 0 ( and ( at x ) ( at ( at x ) ) ) )", 8), ("( both ( eq x y ) ( eq ( at x ) ( at y ) ) )", 4),
            ("( eq ( if ( eq x y ) x y ) ( if ( eq x y ) y x ) )", 8),
        ]
        for text, weight in table:
            self.assertEqual(weight_of(read_term(text)), weight, text)
            self.assertEqual(weight_of(as_lists(read_term(text))), weight)

    def test_drawn_truths(self):
        rng = random.Random(51)
        draw = plain_draw(rng, (X, Y, P, Q, TRUE, number(3), number(-6), number(0)), 8)
        for _ in range(200):
            truth = draw.term("truth", rng.randint(1, 50))
            if rng.random() < 0.3:
                truth = ("both", truth, ("lt", ("mul", draw.term("word", 7), number(rng.randint(-9, 9))), ("at", ("at", ("at", X)))))
            self.assertEqual(weight_of(truth), Truth(truth, 1).weight(), term_text(truth))

    def test_many_reads(self):
        truth, other = ("eq", X, X), ("eq", X, X)
        for index in range(40):
            truth = ("both", ("eq", ("at", number(index)), X), ("no", truth))
            other = ("both", other, ("eq", ("at", number(index)), X))
        self.assertEqual(weight_of(truth), 2 ** (1 + 40 + 40 * 39))
        self.assertEqual(weight_of(other), 2 ** (1 + 40 + 40 * 39))

    def test_errors(self):
        for value in [*NO_TERMS, *NOT_PLAIN, X, ("if", P, X, Y), ("eq", X, ("mul", X, Y)), ("lt", ("call f 0",), X)]:
            self.check_part(BadTerm, "truth", weight_of, value)
        self.assertEqual(weight_of(truth=TRUE), 1)


class TestBounds(Raises, unittest.TestCase):
    def refused(self, what, most, text, least=1):
        truth = read_term(text)
        for action in (holds, shows_holds, shows_fails):
            self.check(TooMany, {"what": what, "most": most}, action, truth, least, *[None] * (action is not holds))

    def test_names(self):
        self.assertEqual(holds(read_term("( no ( lt ( and ( and a b ) ( and c d ) ) 0 ) )"), 1).word, "holds")
        self.refused("names", 4, "( eq ( and ( and a b ) ( and c d ) ) e )")
        self.assertEqual(holds(read_term("( either ( no ( eq x y ) ) ( eq ( at x ) ( at y ) ) )"), 1).word, "holds")
        self.refused("names", 4, "( eq ( at x ) ( and z ( at y ) ) )")
        self.refused("names", 4, "( eq ( at 1 ) ( and ( and ( at 2 ) ( at 3 ) ) ( and ( at 4 ) ( at 5 ) ) ) )")
        self.refused("names", 4, "( eq ( and ( and a b ) ( and c d ) ) ( shl 31 ( add e 65536 ) ) )")

    def test_weight(self):
        self.assertEqual(holds(read_term("( eq x ( shl 7 x ) )"), 1).word, "fails")
        self.assertEqual(holds(read_term("( no ( lt ( mul x 128 ) 0 ) )"), 1).word, "holds")
        self.assertEqual(holds(read_term("( no ( lt ( mul x -127 ) 0 ) )"), 1).word, "holds")
        for text in ("( eq x ( shl 8 x ) )", "( eq x ( mul x 129 ) )", "( eq x ( mul -128 x ) )", "( eq ( add x x ) ( shl 7 x ) )"):
            self.refused("weight", 256, text)
        self.refused("weight", 256, "( eq ( shl 31 x ) ( add 65536 y ) )")
        self.assertEqual(weight_of(read_term("( eq x ( mul x 129 ) )")), 258)

    def test_depth(self):
        for n in (65535, -65536):
            self.assertEqual(holds(("no", ("lt", number(n), number(0))), 1).word, "holds")
        for n in (65536, -65537, 2147483647):
            self.refused("depth", 16, f"( no ( lt {n} 0 ) )")
        self.refused("depth", 16, "( eq ( mul 65536 0 ) x )")
        self.assertEqual(holds(("eq", number(65535), number(65535)), 8).tables[0][1][-1][0], 16)

    def test_parameters_in_their_order(self):
        wide = read_term("( eq ( and ( and a b ) ( and c d ) ) e )")
        for action in (holds, shows_holds, shows_fails):
            more = [None] * (action is not holds)
            for value in [*NO_TERMS, *NOT_PLAIN, X, ("if", P, X, Y), ("eq", X, ("mul", X, Y))]:
                self.check_part(BadTerm, "truth", action, value, 0, *more)
            for least in [*STRANGE, 0, 9, -1, "1", [1], 10 ** 99]:
                self.check_part(BadNumber, "least", action, P, least, *more)
                self.check_part(BadNumber, "least", action, wide, least, *more)
        self.assertEqual(holds(least=1, truth=TRUE).word, "holds")


class TestHolds(unittest.TestCase):
    def look_at(self, truth, least, paper):
        slow = Truth(truth, least)
        if paper.word == "holds":
            self.assertIsInstance(paper, Holds)
            self.assertTrue(slow.is_right(paper.tables), term_text(truth))
            self.assertIs(shows_holds(truth, least, paper), True)
            self.assertIs(shows_fails(truth, least, paper), False)
            return
        self.assertIsInstance(paper, Fails)
        self.assertTrue(is_false(truth, paper), term_text(truth))
        self.assertTrue(memory_is_read(truth, paper), term_text(truth))
        self.assertEqual([key for key, _ in paper.names], [leaf[1] for leaf in leaves_of(truth) if leaf[0] == "name"])
        self.assertEqual([key for key, _ in paper.flags], [leaf[1] for leaf in leaves_of(truth) if leaf[0] == "flag"])
        self.assertTrue(all(0 < word < 2 ** paper.width for _, word in paper.memory))
        self.assertTrue(all(0 <= word < 2 ** paper.width for _, word in paper.names))
        self.assertEqual(list(paper.memory), sorted(paper.memory))
        self.assertIs(shows_fails(truth, least, paper), True)
        self.assertIs(shows_holds(truth, least, paper), False)
        self.assertTrue(has_no_list(paper.parts))

    def test_right_ones(self):
        for text, least in RIGHT:
            truth = read_term(text)
            paper = holds(as_lists(truth), least)
            self.assertEqual(paper.word, "holds", text)
            self.look_at(truth, least, paper)
            self.assertEqual(holds(truth, least), paper)

    def test_wrong_ones(self):
        for text, least, width in WRONG:
            truth = read_term(text)
            paper = holds(truth, least)
            self.assertEqual((paper.word, getattr(paper, "width", None)), ("fails" if width else "holds", width), text)
            self.look_at(truth, least, paper)
            self.assertEqual(holds(truth, least), paper)

    def test_that_hold_from_some_width_on(self):
        for n in (2, 4, 6, 96, 128, 3, 100, -2, -8, -127, 32767, -32768):
            for least in range(1, 9):
                widths = [width for width in range(least, 17) if n % 2 ** width == 0]
                paper = holds(("no", ("eq", number(n), number(0))), least)
                self.assertEqual(getattr(paper, "width", None), widths[0] if widths else None, (n, least))
                widths = [width for width in range(least, 17) if 3 % 2 ** width >= n % 2 ** width]
                paper = holds(("lt", number(3), number(n)), least)
                self.assertEqual(getattr(paper, "width", None), widths[0] if widths else None, (n, least))

    def test_drawn_without_reads(self):
        leaves = (X, Y, P, TRUE, number(1), number(3), number(-2), number(0))
        words = {"holds": 0, "fails": 0}
        for _, truth, least in drawn(52, 260, leaves):
            paper = holds(truth, least)
            words[paper.word] += 1
            self.look_at(truth, least, paper)
            self.trial(truth, least, paper, 4)
        self.assertGreater(min(words.values()), 20)

    def test_drawn_products_and_shifts(self):
        rng = random.Random(53)
        for _ in range(120):
            one = ("mul", X, number(rng.choice([2, 3, 5, -1, -2, -3, 6, 7])))
            other = rng.choice([("shl 1", Y), ("shl 2", X), ("mul", number(-4), X), ("sub", X, Y), ("neg", X), ("flip", Y), Y])
            truth = (rng.choice(["eq", "lt", "less"]), one, other)
            truth = ("no", truth) if rng.random() < 0.5 else truth
            truth = ("either", truth, ("eq", X, number(0))) if rng.random() < 0.5 else truth
            if weight_of(truth) > 256:
                continue
            least = rng.choice([1, 2, 3])
            paper = holds(truth, least)
            self.look_at(truth, least, paper)
            self.trial(truth, least, paper, 4)

    def test_drawn_with_reads(self):
        leaves = (X, P, number(1), number(-1), number(0))
        reads, words = 0, {"holds": 0, "fails": 0}
        for _, truth, least in drawn(54, 200, leaves, 16, 4, 1):
            paper = holds(truth, least)
            words[paper.word] += 1
            self.look_at(truth, least, paper)
            reads += len(Truth(truth, 1).reads) > 1
            self.trial(truth, least, paper, 2)
        self.assertGreater(reads, 30)
        self.assertGreater(min(words.values()), 2)

    def test_drawn_with_reads_of_equal_addresses(self):
        rng = random.Random(55)
        draw = plain_draw(rng, (X, Y, number(1), number(0), TRUE))
        words = {"holds": 0, "fails": 0}
        for _ in range(400):
            one, other = draw.term("word", rng.randint(1, 5)), draw.term("word", rng.randint(1, 5))
            same = ("eq", ("at", one), ("at", other))
            truth = rng.choice([same, ("either", ("no", ("eq", one, other)), same), ("either", same, ("lt", one, other))])
            slow = Truth(truth, 1)
            if len(slow.names) > 4 or slow.weight() > 256:
                continue
            least = rng.choice([1, 2])
            paper = holds(truth, least)
            words[paper.word] += 1
            self.look_at(truth, least, paper)
            self.trial(truth, least, paper, 2)
        self.assertGreater(min(words.values()), 30)

    def trial(self, truth, least, paper, most):
        """Checks the least failing width against a trial of all words, truths and memories of small widths."""
        for width in range(least, most + 1):
            fails = fails_at(truth, width)
            if paper.word == "holds" or width < paper.width:
                self.assertFalse(fails, (term_text(truth), width))

    def test_the_least_widths_are_those_of_a_trial(self):
        for text, least, width in WRONG:
            truth = read_term(text)
            if width is not None and width <= 3 and not any(part[0] == "at" for part in subterms(truth)):
                self.assertTrue(fails_at(truth, width))
                self.assertFalse(any(fails_at(truth, one) for one in range(least, width)))

    def test_without_any_piece_that_keeps(self):
        self.assertEqual(holds(TRUE, 3), Holds([((), [(0,), (1,), (2,), (3,)])]))
        self.assertEqual(holds(FALSE, 3), Fails(3, (), (), ()))
        self.assertEqual(holds(("both", P, Q), 1).width, 1)
        self.assertEqual(holds(P, 2), Fails(2, (), (("p", False),), ()))


class TestTime(unittest.TestCase):
    def test_at_the_rims(self):
        truths = [
            "( eq ( add ( add a b ) ( add c d ) ) ( add ( add a c ) ( add b d ) ) )", "( no ( lt ( add ( mul a 31 ) 32767 ) ( and b 0 ) ) )",
            "( either ( eq ( if ( lt a b ) c d ) ( if ( lt a b ) c d ) ) ( eq a 32767 ) )",
            "( no ( lt ( mul ( add a ( xor b ( and c d ) ) ) 64 ) 0 ) )", "( eq ( shl 6 ( flip a ) ) ( xor ( shl 6 ( flip a ) ) ( and 0 65535 ) ) )",
        ]
        begun = time.monotonic()
        for text in truths:
            truth = read_term(text)
            paper = holds(truth, 8)
            self.assertLessEqual(weight_of(truth), 256)
            (shows_holds if paper else shows_fails)(truth, 8, paper)
        self.assertLess(time.monotonic() - begun, 10)

    def test_a_broad_one(self):
        term = X
        for n in range(-120, 120):
            term = ("xor", ("or", term, number(n)), ("and", ("flip", Y), number(3 * n))) if n % 3 == 0 else term
        begun = time.monotonic()
        self.assertIn(holds(("eq", term, term), 8).word, ("holds", "fails"))
        self.assertLess(time.monotonic() - begun, 5)


if __name__ == "__main__":
    unittest.main()
