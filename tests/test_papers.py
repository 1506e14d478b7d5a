"""Papers and denials."""

import unittest
from helpers import STRANGE

from leastequal.every import Fails, Holds
from leastequal.papers import Denial, Paper, fixed

FAILS_FIELDS = ("width", "names", "flags", "memory")


class TestFixed(unittest.TestCase):
    def test_lists_become_tuples(self):
        self.assertEqual(fixed([]), ())
        self.assertEqual(fixed([1, [2, ([3], "x")], ()]), (1, (2, ((3,), "x")), ()))
        self.assertEqual(fixed(([[[]]],)), ((((),),),))

    def test_other_values_stay(self):
        inner = {"a": [1]}
        for value in [*STRANGE, 7, "text", inner, Paper("x", [1])]:
            self.assertIs(fixed(value), value)
            self.assertIs(fixed([[value]])[0][0], value)
        self.assertEqual(inner, {"a": [1]})

    def test_a_hundred_deep(self):
        value, wanted = [], ()
        for _ in range(99):
            value, wanted = [value, 1], (wanted, 1)
        self.assertEqual(fixed(value), wanted)

    def test_what_is_passed_is_not_changed(self):
        value = [1, [2]]
        told = fixed(value)
        self.assertEqual(value, [1, [2]])
        value[1].append(3)
        self.assertEqual(told, (1, (2,)))


class TestPapers(unittest.TestCase):
    def test_word_and_parts(self):
        for made in (Paper("odd", 1, [2, [3]]), Denial("odd", 1, [2, [3]])):
            self.assertEqual((made.word, made.parts), ("odd", (1, (2, (3,)))))
        self.assertEqual((Paper("odd").parts, Denial("odd").parts), ((), ()))
        self.assertEqual((Paper(word="odd").word, Denial(word="odd").word), ("odd", "odd"))

    def test_a_list_that_changes_later(self):
        inner = [1]
        made = Paper("odd", [inner])
        inner.append(2)
        self.assertEqual(made.parts, (((1,),),))

    def test_truth(self):
        self.assertIs(bool(Paper("odd")), True)
        self.assertIs(bool(Denial("odd")), False)
        self.assertIs(bool(Holds([])), True)
        self.assertIs(bool(Fails(1, [], [], [])), False)

    def test_equality(self):
        self.assertTrue(Paper("odd", [1], "x") == Paper("odd", (1,), "x"))
        self.assertTrue(Denial("odd", [1]) == Denial("odd", (1,)))
        self.assertTrue(Paper("odd", Paper("inner", [2])) == Paper("odd", Paper("inner", (2,))))
        for other in (Paper("even", (1,)), Paper("odd", 1), Paper("odd"), Denial("odd", (1,)), "odd", None, (1,)):
            self.assertIs(Paper("odd", (1,)) == other, False)
            self.assertIs(Paper("odd", (1,)) != other, True)
        self.assertIs(Denial("odd", 1) == Paper("odd", 1), False)

    def test_true_and_1_are_equal_as_python_compares(self):
        self.assertIs(Paper("odd", [True, 0]) == Paper("odd", [1, False]), True)
        self.assertIs(Fails(1, [], [("p", True)], []) == Fails(True, [], [("p", 1)], []), True)

    def test_the_class_counts(self):
        self.assertIs(Holds([]) == Paper("holds", []), False)
        self.assertIs(Paper("holds", []) == Holds([]), False)
        self.assertIs(Fails(1, [], [], []) == Denial("fails", 1, [], [], []), False)


class TestTheClasses(unittest.TestCase):
    def test_what_is_above(self):
        self.assertEqual((Denial.__bases__, Holds.__bases__, Fails.__bases__), ((Paper,), (Paper,), (Denial,)))
        for made in (Paper, Denial):
            self.assertIn("__eq__", vars(made))

    def test_any_values_in_the_order_of_the_parameters(self):
        for value in [*STRANGE, {"a": [1]}, "x", [[1], 2]]:
            held = Holds(value)
            self.assertEqual((held.word, held.parts), ("holds", (fixed(value),)))
            self.assertEqual(held.tables, fixed(value))
            failed = Fails(value, [1], value, 2)
            self.assertEqual((failed.word, failed.parts), ("fails", (fixed(value), (1,), fixed(value), 2)))
            self.assertEqual([getattr(failed, key) for key in FAILS_FIELDS], list(failed.parts))

    def test_by_name(self):
        self.assertEqual(Holds(tables=[1]), Holds([1]))
        self.assertEqual(Fails(memory=4, flags=3, names=2, width=1), Fails(1, 2, 3, 4))


if __name__ == "__main__":
    unittest.main()
