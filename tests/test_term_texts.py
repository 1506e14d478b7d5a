"""The texts of terms."""

import random
import unittest
from helpers import FALSE, P, STRANGE, TRUE, TRUTH_LABELS, WORD_LABELS, X, Y, Z
from helpers import Draw, Raises, as_lists, has_no_list, number

from leastequal.errors import BadText, BadTerm
from leastequal.term_texts import read_term, term_text

TEXTS = [
    ("x", X), ("?p", P), ("?true", ("flag", "true")), ("?false", ("flag", "false")), ("true", TRUE), ("false", FALSE),
    ("0", number(0)), ("-1", number(-1)), ("2147483647", number(2147483647)), ("-2147483647", number(-2147483647)),
    ("add", ("name", "add")), ("call", ("name", "call")), ("shl", ("name", "shl")), ("number", ("name", "number")),
    *[(f"( {label} x 1 )", (label, X, number(1))) for label in ("add", "sub", "mul", "and", "or", "xor", "eq", "lt", "less")],
    *[(f"( {label} x )", (label, X)) for label in ("neg", "flip", "at", *[f"shl {k}" for k in range(1, 32)])],
    ("( both ?p true )", ("both", P, TRUE)), ("( either false ?p )", ("either", FALSE, P)), ("( no ?p )", ("no", P)),
    ("( if ?x x y )", ("if", ("flag", "x"), X, Y)),
    ("( call f 0 )", ("call f 0",)), ("( call true 5 x )", ("call true 5", X)),
    ("( call f2345678 3 x y z x y z )", ("call f2345678 3", X, Y, Z, X, Y, Z)),
    ("( loop f 1 x y )", ("loop f 1", X, Y)), ("( loop f 0 x y z x y z 1 )", ("loop f 0", X, Y, Z, X, Y, Z, number(1))),
    ("( add ( neg x ) ( if ( eq x 3 ) ( call f 0 ) ( loop f 0 1 2 ) ) )",
     ("add", ("neg", X), ("if", ("eq", X, number(3)), ("call f 0",), ("loop f 0", number(1), number(2))))),
]
# What cannot be read, and the item that is told.
WRONG = [
    # Too soon at an end.
    ("", 0), ("(", 1), ("( add", 2), ("( add x", 3), ("( add x y", 4), ("( neg ( neg x )", 6), ("( if ?p x", 4),
    ("( call", 2), ("( call f", 3), ("( call f 0", 4), ("( call f 0 x y z x y z", 10), ("( loop f 0 x", 5),
    ("( shl", 2), ("( shl 1", 3), ("( no", 2), ("( shl 1 x", 4),
    # An item too many, an empty one.
    ("x y", 1), ("x )", 1), ("( neg x ) )", 4), ("( neg x ) x", 4), (" x", 0), ("x ", 1), ("( neg  x )", 2),
    ("( neg x )  ", 4), ("  ", 0), (" ", 0), ("(  add x y )", 1), ("( add x  y )", 3), ("( add x y ) ", 5),
    # A part too many or missing.
    ("( neg x y )", 3), ("( neg )", 2), ("( add x )", 3), ("( add )", 2), ("( add x y z )", 4), ("( )", 1),
    ("( call f 0 x y z x y z 7 )", 10), ("( call f 0 x y z x y z ( neg x ) )", 10), ("( loop f 0 )", 4),
    ("( loop f 0 x )", 5), ("( loop f 0 x y z x y z 1 2 )", 11), ("( if ?p x )", 4), ("( no )", 2),
    # Integers in another way of writing, or too great.
    ("+1", 0), ("01", 0), ("-0", 0), ("00", 0), ("-01", 0), ("--1", 0), ("-", 0), ("1.0", 0), ("1_0", 0), ("0x1", 0),
    ("2147483648", 0), ("-2147483648", 0), ("9" * 400, 0), ("( neg 2147483648 )", 2), ("\u0661", 0), ("1\n", 0),
    ("\u00b2", 0), ("1e3", 0),
    # Spellings.
    ("x23456789", 0), ("X", 0), ("?", 0), ("?P", 0), ("??p", 0), ("?p23456789", 0), ("1x", 0), ("_", 0), ("#0", 0),
    ("x\ny", 0), ("x\n", 0), ("\tx", 0), ("?1", 0), ("True", 0), ("(x", 0), ("( neg x)", 2),
    # Labels.
    ("( plus x y )", 1), ("( ADD x y )", 1), ("( x )", 1), ("( 1 )", 1), ("( true )", 1), ("( name x )", 1),
    ("( number 1 )", 1), ("( flag p )", 1), ("( ( neg x ) )", 1), ("( shl 0 x )", 2), ("( shl 32 x )", 2),
    ("( shl 01 x )", 2), ("( shl  1 x )", 2), ("( shl x )", 2), ("( shl -1 x )", 2), ("( shl +1 x )", 2),
    ("( shl 99999999999999999999 x )", 2), ("( call 0 x )", 2), ("( call F 0 )", 2), ("( call f23456789 0 )", 2),
    ("( call f x )", 3), ("( call f 6 )", 3), ("( call f -1 )", 3), ("( call f 00 )", 3), ("( call f  0 )", 3),
    ("( call  f 0 )", 2), ("( loop 1 0 x y )", 2), ("( loop f 6 x y )", 3), ("( call f ) )", 3), ("( call ) )", 2),
    ("( call ?f 0 )", 2), ("( loop ( 0 )", 2),
    # A part of the other kind: for a label the label itself.
    ("( add ?p x )", 2), ("( add true x )", 2), ("( neg false )", 2), ("( add x ( eq x y ) )", 4), ("( no x )", 2),
    ("( no 1 )", 2), ("( no ( neg x ) )", 3), ("( no ( call f 0 ) )", 3), ("( no ( loop f 0 x y ) )", 3),
    ("( no ( shl 1 x ) )", 3), ("( if x x y )", 2), ("( if ?p ?p y )", 3), ("( if ?p x ( no ?p ) )", 5),
    ("( both ?p x )", 3), ("( both ( if ?p x y ) ?p )", 3), ("( call f 0 ?p )", 4), ("( loop f 0 x true )", 5),
    ("( eq x ( both ?p ?p ) )", 4), ("( at ( at ( no ?p ) ) )", 5),
    # The first one of several.
    ("( add ?p ) +1", 2), ("( foo ) )", 1), ("( add x y ) ( foo )", 5),
]


def nested(levels):
    """A text of so many levels."""
    return " ".join(["( neg"] * (levels - 1) + ["x"] + [")"] * (levels - 1))


class TestTermTexts(Raises, unittest.TestCase):
    def test_texts(self):
        for text, term in TEXTS:
            self.assertEqual(term_text(term), text)
            self.assertEqual(term_text(as_lists(term)), text)
            self.assertEqual(read_term(text), term)
            self.assertTrue(has_no_list(read_term(text)))

    def test_drawn_ones(self):
        rng = random.Random(5)
        draw = Draw(rng, [X, Y, P, ("flag", "x"), TRUE, FALSE, number(-12), number(0)], [*WORD_LABELS, *TRUTH_LABELS])
        for index in range(80):
            term = draw.term(("word", "truth")[index % 2], rng.randint(1, 60))
            text = term_text(term)
            self.assertEqual(read_term(text), term)
            self.look_at_changed(rng, text)

    def look_at_changed(self, rng, text):
        """What is read once more is the text itself; what cannot be read is told no sooner than it was changed."""
        items = text.split(" ")
        place = rng.randrange(len(items) + 1)
        choice = rng.choice(["", ")", "(", "x", "?p", "3", "add", "no", "shl", "call", "-0"])
        for changed in (items[:place] + [choice] + items[place:], items[:place] + items[place + 1:], items[:place] + [choice] + items[place + 1:]):
            try:
                term = read_term(" ".join(changed))
            except BadText as error:
                self.assertEqual(error.line, 0)
                self.assertTrue(place <= error.item <= len(changed) or changed == [])
            else:
                self.assertEqual(term_text(term), " ".join(changed))

    def test_what_cannot_be_read(self):
        for text, item in WRONG:
            with self.subTest(text=text):
                self.check_text(0, item, read_term, text)

    def test_no_string(self):
        for value in [*STRANGE, 3, ["x"], ("x",), {}, b"x", X]:
            self.check_text(0, 0, read_term, value)

    def test_ninety_levels(self):
        self.assertEqual(term_text(read_term(nested(90))), nested(90))
        self.check_text(0, 180, read_term, nested(91))
        self.check_text(0, 180, read_term, nested(95))
        self.check_text(0, 180, read_term, nested(91)[:nested(91).index("x")] + "+1")
        calls = nested(90).replace("x", "( call f 0 )")
        self.assertEqual(term_text(read_term(calls)), calls)
        self.check_text(0, 182, read_term, nested(90).replace("x", "( call f 0 y )"))
        self.check_text(0, 180, read_term, nested(91).replace("x", "( call f 0 )"))

    def test_no_term(self):
        for value in [*STRANGE, 3, "x", (), ("neg", P), ("name", "true"), ["add", X]]:
            self.check_part(BadTerm, "term", term_text, value)

    def test_great_ones(self):
        term = X
        for _ in range(11):
            term = ("add", term, term)
        self.assertEqual(read_term(term_text(term)), term)


if __name__ == "__main__":
    unittest.main()
