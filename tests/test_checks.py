"""What is looked at in values that callers pass."""

import unittest
from helpers import STRANGE

from leastequal.checks import are_pairs, first_twice, is_integer, is_within, pairs_of


class TestIntegers(unittest.TestCase):
    def test_is_integer(self):
        for value in (0, -1, 10 ** 100, -10 ** 100):
            self.assertIs(is_integer(value), True)
        for value in [*STRANGE, "1", [1], (1,), {}]:
            self.assertIs(is_integer(value), False)

    def test_is_within(self):
        for value, least, most, wanted in [
            (3, 3, 3, True), (2, 3, 4, False), (5, 3, 4, False), (-9, None, 3, True), (4, None, 3, False),
            (4, 4, None, True), (3, 4, None, False), (10 ** 99, None, None, True), (-1, 0, None, False),
            (0, 1, 0, False), (True, 0, 1, False), (False, None, None, False), ("1", None, None, False),
        ]:
            self.assertIs(is_within(value, least, most), wanted)
        for value in [*STRANGE, "1", [1]]:
            self.assertIs(is_within(value, None, None), False)

    def test_by_name(self):
        self.assertIs(is_within(most=3, value=2, least=1), True)
        self.assertIs(is_integer(value=2), True)


class TestPairs(unittest.TestCase):
    def test_are_pairs(self):
        for value in ([], (), [[1, 2]], ([1, 2], (3, 4)), [(None, [])], [[[], []]]):
            self.assertIs(are_pairs(value), True)
        for value in [*STRANGE, {}, {1: 2}, "ab", ["ab"], [{1: 2, 3: 4}], [[1]], [[1, 2, 3]], [[1, 2], 3], [()], 5]:
            self.assertIs(are_pairs(value), False)

    def test_pairs_of_a_dict(self):
        self.assertEqual(pairs_of({}), ())
        self.assertEqual(pairs_of({"y": 1, "x": [2], -3: None}), (("y", 1), ("x", [2]), (-3, None)))

    def test_pairs_of_pairs(self):
        self.assertEqual(pairs_of([]), ())
        self.assertEqual(pairs_of(()), ())
        for value in ([["y", 1], ("x", 2)], (("y", 1), ["x", 2]), [("y", 1), ["x", 2]]):
            self.assertEqual(pairs_of(value), (("y", 1), ("x", 2)))
        self.assertEqual(pairs_of([["1", [5]], [1, "x"]]), (("1", [5]), (1, "x")))

    def test_nothing_else_has_pairs(self):
        for value in [*STRANGE, "ab", ["ab"], [[1]], [[1, 2, 3]], 5, [[1, 2], None]]:
            self.assertIsNone(pairs_of(value))

    def test_keys(self):
        for key in [*STRANGE[:5], b"x", (1,), (), int]:
            self.assertIsNone(pairs_of({key: 1}))
            self.assertIsNone(pairs_of([("x", 1), (key, 1)]))
        for key in ([], ["x"], {}, {1}):
            self.assertIsNone(pairs_of([(key, 1)]))

    def test_a_key_twice(self):
        for pairs in ([("x", 1), ("x", 1)], [(7, 1), ("7", 2), (7, 2)], [("a", 1), ("b", 1), ("c", 1), ("a", 3)]):
            self.assertIsNone(pairs_of(pairs))
            self.assertIsNone(pairs_of(tuple(map(list, pairs))))

    def test_nothing_is_changed(self):
        pairs = [["x", [1]], ("y", 2)]
        told = pairs_of(pairs)
        pairs[0].append(3)
        pairs.append(["z", 1])
        self.assertEqual(told, (("x", [1]), ("y", 2)))


class TestFirstTwice(unittest.TestCase):
    def test_none(self):
        for values in ([], (), [1], ["a", "b", 1, "1"], [("a", 1), ("a",), ("a", 2), "a"], [(), ("",), ""]):
            self.assertIsNone(first_twice(values))

    def test_the_first(self):
        self.assertEqual(first_twice(["a", "b", "b", "a"]), "b")
        self.assertEqual(first_twice((5, 4, 5, 4)), 5)
        self.assertEqual(first_twice([0, 1, 2, 0]), 0)
        self.assertEqual(first_twice(["", 0, ""]), "")
        self.assertEqual(first_twice([(), 0, ()]), ())
        self.assertEqual(first_twice([("a", 1), "a", ("a", 1)]), ("a", 1))

    def test_lists_and_tuples_alike(self):
        self.assertEqual(first_twice([["a", 1], ("a", 1)]), ("a", 1))
        self.assertEqual(first_twice([("a", 1), ["b", 1], ["b", 1]]), ("b", 1))
        self.assertIsNone(first_twice([["a"], ("b",)]))


if __name__ == "__main__":
    unittest.main()
