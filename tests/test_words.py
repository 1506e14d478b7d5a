"""Words, and what labels make of them."""

import random
import unittest
from helpers import STRANGE, TRUTH_LABELS, WORD_LABELS, Raises, label_worth

from leastequal.errors import BadNumber, BadTerm
from leastequal.words import shape_of, signed, word, worked

TWO, ONE = ("word", "word"), ("word",)
SHAPES = {
    **{label: ("word", TWO) for label in ("add", "sub", "mul", "and", "or", "xor")},
    **{label: ("word", ONE) for label in ("neg", "flip", "at", *[f"shl {k}" for k in range(1, 32)])},
    **{label: ("truth", TWO) for label in ("eq", "lt", "less")},
    "if": ("word", ("truth", "word", "word")),
    "both": ("truth", ("truth", "truth")),
    "either": ("truth", ("truth", "truth")),
    "no": ("truth", ("truth",)),
}
NO_LABELS = [
    "shl", "shl ", "shl 0", "shl 32", "shl 01", "shl  1", "shl 1 ", "shl +1", "shl -1", "shl 1.0", " shl 1", "shl1",
    "shl\t1", "shl x", "shl 1 2", "SHL 1", "ADD", "", "add ", " add", "number", "name", "flag", "true", "false",
    "call f 0", "loop f 0", "shl \u0661", "shl 9999999999999999999", "shl 1\n",
]
WRONG_WIDTHS = [0, -1, 301, 10 ** 99, "4", [4], *STRANGE]


class TestWords(Raises, unittest.TestCase):
    def test_word(self):
        for width in (1, 2, 17, 300):
            for number in (0, 1, -1, 2 ** width, 2 ** width - 1, -2 ** width, 5 ** 200, -5 ** 200, 10 ** 99):
                self.assertEqual(word(number, width), number % 2 ** width)
        self.assertEqual(word(width=4, number=-2), 14)

    def test_word_errors(self):
        for number in [*STRANGE, "3", [3]]:
            self.check_part(BadNumber, "number", word, number, 4)
            self.check_part(BadNumber, "number", word, number, 0)
        for width in WRONG_WIDTHS:
            self.check_part(BadNumber, "width", word, 3, width)

    def test_signed(self):
        for width in (1, 2, 5):
            for value in range(2 ** width):
                wanted = value if value < 2 ** (width - 1) else value - 2 ** width
                self.assertEqual(signed(value, width), wanted)
        self.assertEqual([signed(2 ** 300 - 1, 300), signed(2 ** 299, 300)], [-1, -2 ** 299])
        self.assertEqual([signed(2 ** 299 - 1, 300), signed(width=1, value=1)], [2 ** 299 - 1, -1])

    def test_signed_errors(self):
        for width in WRONG_WIDTHS:
            self.check_part(BadNumber, "width", signed, 0, width)
            self.check_part(BadNumber, "width", signed, None, width)
        for value in [-1, 16, 2 ** 300, "1", [1], *STRANGE]:
            self.check_part(BadNumber, "value", signed, value, 4)


class TestShapes(unittest.TestCase):
    def test_labels(self):
        for label, shape in SHAPES.items():
            self.assertEqual(shape_of(label), shape)

    def test_other_values(self):
        for label in [*NO_LABELS, *STRANGE, 1, ["add"], ("add",), {}, [], {"add": 1}]:
            self.assertIsNone(shape_of(label), label)


class TestWorked(Raises, unittest.TestCase):
    def values_of(self, rng, kinds, width):
        rims = [0, 1, 2 ** width - 1, 2 ** (width - 1), 2 ** (width - 1) - 1]
        one = lambda: rng.choice([*rims, rng.randrange(2 ** width)])
        return [rng.random() < 0.5 if kind == "truth" else one() % 2 ** width for kind in kinds]

    def test_small_widths_wholly(self):
        for label in set(SHAPES) - {"at"}:
            for width in (1, 2, 3):
                self.look_at_all(label, width, [])

    def look_at_all(self, label, width, ahead):
        kinds = SHAPES[label][1]
        if len(ahead) == len(kinds):
            self.look_at(label, width, ahead)
            return
        for value in (False, True) if kinds[len(ahead)] == "truth" else range(2 ** width):
            self.look_at_all(label, width, [*ahead, value])

    def look_at(self, label, width, values):
        told = worked(label, width, values)
        self.assertEqual(told, label_worth(label, width, values), (label, width, values))
        self.assertIs(type(told), bool if SHAPES[label][0] == "truth" else int)
        self.assertEqual(worked(label, width, tuple(values)), told)

    def test_great_widths(self):
        rng = random.Random(1)
        for label in set(SHAPES) - {"at"}:
            for width in (31, 32, 64, 299, 300):
                for _ in range(12):
                    self.look_at(label, width, self.values_of(rng, SHAPES[label][1], width))

    def test_carries_through_all_bits(self):
        most = 2 ** 300 - 1
        self.assertEqual(worked("add", 300, [most, 1]), 0)
        self.assertEqual(worked("sub", 300, [0, 1]), most)
        self.assertEqual(worked("neg", 300, [1]), most)
        self.assertEqual(worked("neg", 300, [0]), 0)
        self.assertEqual(worked("mul", 300, [most, most]), 1)
        self.assertEqual(worked("shl 31", 300, [most]), most - (2 ** 31 - 1))
        self.assertEqual([worked("shl 1", 1, [1]), worked("shl 31", 31, [1]), worked("shl 31", 32, [3])], [0, 0, 2 ** 31])
        self.assertIs(worked("less", 300, [2 ** 299, 2 ** 299 - 1]), True)
        self.assertIs(worked("lt", 300, [2 ** 299, 2 ** 299 - 1]), False)

    def test_no_label(self):
        for label in ["at", *NO_LABELS, *STRANGE, 1, ["add"], []]:
            self.check_part(BadTerm, "label", worked, label, 4, [1, 2])
            self.check_part(BadTerm, "label", worked, label, 0, None)

    def test_no_width(self):
        for width in WRONG_WIDTHS:
            self.check_part(BadNumber, "width", worked, "add", width, [1, 2])
            self.check_part(BadNumber, "width", worked, "add", width, "x")

    def test_wrong_values(self):
        for values in ([], [1], [1, 2, 3], [1, 16], [-1, 1], [1, True], [False, 1], [1, "1"], [1, None], [1, [1]]):
            self.check_part(BadNumber, "values", worked, "add", 4, values)
            self.check_part(BadNumber, "values", worked, "add", 4, tuple(values))
        for values in ([1, 2, 3], [0, 2, 3], [True, True, 3], [True, 2, False], [True, 2], [True, 2, 16], [None, 1, 2]):
            self.check_part(BadNumber, "values", worked, "if", 4, values)
        for values in ([1], [0], [], [True, True], ["no"], [[True]]):
            self.check_part(BadNumber, "values", worked, "no", 4, values)
        for label in ("both", "either"):
            self.check_part(BadNumber, "values", worked, label, 4, [True, 1])
        for values in [*STRANGE, 3, "ab", {0: 1, 1: 2}, {1: 2}]:
            self.check_part(BadNumber, "values", worked, "add", 4, values)

    def test_by_name(self):
        self.assertEqual(worked(values=(3, 5), width=3, label="sub"), 6)

    def test_all_labels_are_drawn_in_other_tests(self):
        self.assertEqual({shape_of(label)[0] for label in WORD_LABELS}, {"word"})
        self.assertEqual({shape_of(label)[0] for label in TRUTH_LABELS}, {"truth"})


if __name__ == "__main__":
    unittest.main()
