"""Classes."""

import random
import unittest

from helpers import FALSE, P, Q, STRANGE, TRUE, X, Y, Z, Draw, DrawCalls, Raises, as_lists, has_no_list, kind, name, number, subterms
from leastequal.classes import Classes
from leastequal.errors import BadTerm, Misfit, NoClass
from leastequal.program import Function
from slow_classes import SlowClasses, all_first_terms, drawn_joins

A, B = name("a"), name("b")
ONE, ZERO = number(1), number(0)
LABELS = ["add", "neg", "mul", "and", "shl 1", "shl 2", "if", "eq", "no", "both", "at"]
LEAVES = [X, Y, P, TRUE, ZERO, ONE, number(-1)]
FUNCTIONS = [Function("f", ["a"], [A]), Function("g", [], [ONE])]


def pair_of(seed, many, size, leaves=LEAVES, labels=LABELS):
    """A drawn Classes and its slow model, with the terms that were put."""
    rng = random.Random(seed)
    draw = DrawCalls(rng, leaves, labels, FUNCTIONS)
    classes, slow, terms = Classes(), SlowClasses(), []
    for index, (one, other) in enumerate(drawn_joins(rng, draw, many, size)):
        terms.extend([one, other])
        if rng.random() < 0.3:
            yield classes.put(one), slow.put(one), classes, slow, terms
        else:
            yield classes.join(one, other, [index]), slow.join(one, other, (index,)), classes, slow, terms


class TestClosing(Raises, unittest.TestCase):
    def test_drawn(self):
        merged = 0
        for seed in range(60):
            for told, wanted, classes, slow, terms in pair_of(seed, 12, 6):
                self.assertEqual((told, type(told)), (wanted, type(wanted)))
                self.assertTrue(slow.same_as(classes))
            merged += len(classes.record)
            for term in [part for one in terms for part in subterms(one)] + [("neg", ("neg", X)), ("at", Y), name("gone")]:
                self.assertEqual(classes.class_of(term), slow.class_of(term))
            for place in classes.places:
                self.assertEqual(classes.kind(place), kind(classes.first_term(place)))
        self.assertGreater(merged, 200)

    def test_few_leaves(self):
        for seed in range(40):
            for told, wanted, classes, slow, _ in pair_of(100 + seed, 14, 5, [X, ZERO, ONE, TRUE], ["neg", "add", "flip", "eq"]):
                self.assertEqual(told, wanted)
                self.assertTrue(slow.same_as(classes))

    def test_order_does_not_matter(self):
        rng = random.Random(5)
        draw = Draw(rng, LEAVES, LABELS)
        for _ in range(30):
            pairs = list(drawn_joins(rng, draw, 8, 5))
            terms = [term for pair in pairs for term in pair]
            first, second = Classes(), Classes()
            for one, other in pairs:
                first.join(one, other, None)
            for one, other in rng.sample(pairs, len(pairs)):
                second.join(other, one, None)
            for one in terms:
                for other in terms:
                    self.assertIs(first.class_of(one) == first.class_of(other), second.class_of(one) == second.class_of(other))

    def test_many_users(self):
        classes, slow = Classes(), SlowClasses()
        for index in range(12):
            for made in (classes, slow):
                made.put(("add", name(f"x{index}"), name(f"x{(index + 1) % 12}")))
                made.put(("neg", name(f"x{index}")))
        for index in range(11, 0, -1):
            one, other = name(f"x{index}"), name(f"x{index - 1}")
            self.assertEqual(classes.join(one, other, index), slow.join(one, other, index))
            self.assertTrue(slow.same_as(classes))

    def test_a_node_that_became_another_one(self):
        # The node of a and b became that of c and b before b comes to another class.
        for heavy in (B, name("d")):
            classes, slow = Classes(), SlowClasses()
            for made in (classes, slow):
                for term in [("add", A, B), ("add", name("c"), B), ("mul", B, A)] + [(label, heavy) for label in ("neg", "flip", "at", "shl 1", "shl 2")]:
                    made.put(term)
                made.put(name("d"))
            for one, other in ((A, name("c")), (B, name("d")), (("neg", B), A), (("flip", name("d")), B)):
                self.assertEqual(classes.join(one, other, 1), slow.join(one, other, 1))
                self.assertTrue(slow.same_as(classes))

    def test_in_pairs(self):
        # Classes of one size come together again and again.
        for seed in range(6):
            rng = random.Random(seed)
            classes, slow = Classes(), SlowClasses()
            names = [name(f"x{index}") for index in range(16)]
            for _ in range(50):
                term = (rng.choice(["add", "mul", "sub"]), rng.choice(names), rng.choice(names))
                self.assertEqual(classes.put(term), slow.put(term))
            step = 1
            while step < 16:
                for index in rng.sample(range(0, 16, 2 * step), 8 // step):
                    one, other = names[index + rng.randrange(step)], names[index + step]
                    self.assertEqual(classes.join(one, other, index), slow.join(one, other, index))
                    self.assertTrue(slow.same_as(classes))
                step *= 2
            term = ("neg", ("add", names[0], names[15]))
            self.assertEqual(classes.put(term), slow.put(term))

    def test_a_class_that_is_a_part_of_itself(self):
        classes = Classes()
        classes.put(("neg", ("neg", ("neg", X))))
        self.assertTrue(classes.join(("neg", X), X, 1))
        self.assertEqual((classes.places, classes.many, classes.nodes(0)), ((0,), 2, (("name", "x"), ("neg", 0))))
        self.assertEqual(classes.class_of(("neg", ("neg", ("neg", ("neg", X))))), 0)
        self.assertEqual(classes.put(("neg", ("neg", X))), 0)
        self.assertEqual(classes.first_term(0), X)

    def test_numbers(self):
        classes = Classes()
        self.assertTrue(classes.join(ONE, ZERO, None))
        self.assertTrue(classes.join(("neg", ZERO), number(2), None))
        self.assertFalse(classes.join(("neg", ONE), number(2), None))
        self.assertEqual((classes.nodes(0), classes.nodes(2)), ((ZERO, ONE), (("neg", 0), number(2))))
        self.assertEqual((classes.first_term(0), classes.first_term(2)), (ZERO, number(2)))

    def test_numbers_of_classes_are_never_given_again(self):
        classes = Classes()
        self.assertEqual([classes.put(term) for term in (X, Y, Z)], [0, 1, 2])
        self.assertTrue(classes.join(Z, Y, None))
        self.assertEqual((classes.put(A), classes.places), (3, (0, 1, 3)))
        self.assertTrue(classes.join(A, X, None))
        self.assertEqual((classes.put(("neg", A)), classes.put(B), classes.places), (4, 5, (0, 1, 4, 5)))

    def test_joins_that_are_none(self):
        classes = Classes()
        self.assertFalse(classes.join(X, X, 1))
        self.assertEqual((classes.places, classes.record), ((0,), ()))
        self.assertTrue(classes.join(X, Y, 2))
        self.assertFalse(classes.join(("neg", X), ("neg", Y), 3))
        self.assertEqual((classes.places, classes.record, classes.many), ((0, 2), ((X, Y, 2),), 3))

    def test_empty(self):
        classes = Classes()
        self.assertEqual((classes.places, classes.many, classes.record), ((), 0, ()))
        self.assertIsNone(classes.class_of(X))

    def test_kinds(self):
        classes = Classes()
        places = [classes.put(term) for term in (("eq", X, Y), TRUE, P, ("call f 0",), ("if", P, X, Y), ("no", P), ONE)]
        self.assertEqual([classes.kind(place) for place in places], ["truth", "truth", "truth", "word", "word", "truth", "word"])

    def test_lists(self):
        classes = Classes()
        why = ["r", 1, [["x", [1, {}]]]]
        self.assertTrue(classes.join(other=as_lists(("neg", X)), why=why, one=as_lists(X)))
        why[2].append(5)
        self.assertEqual(classes.record, ((X, ("neg", X), ("r", 1, (("x", (1, {})),))),))
        self.assertTrue(has_no_list(classes.nodes(0)) and has_no_list(classes.places))
        self.assertEqual((classes.class_of(as_lists(("neg", X))), classes.put(term=as_lists(X))), (0, 0))

    def test_long_terms(self):
        term = X
        for _ in range(90):
            term = ("add", ("neg", term), ("neg", Y))
        classes = Classes()
        place = classes.put(term)
        self.assertEqual((classes.class_of(term), classes.first_term(place)), (place, term))


class TestFirstTerms(unittest.TestCase):
    def test_drawn(self):
        for seed in range(40):
            for index, (_, _, classes, _, _) in enumerate(pair_of(200 + seed, 10, 5)):
                if index % 3 == 2:
                    for place, term in all_first_terms(classes, 5).items():
                        self.assertEqual(classes.first_term(place), term)

    def test_texts(self):
        # Texts compare as strings: "(" is ahead of "-", digits and letters, "10" of "9", a blank of all.
        for terms, first in (
            ((number(9), number(10), number(-5), X), number(-5)), ((number(9), number(10)), number(10)), ((name("a1"), name("a")), A),
            ((("call f 0",), number(-1)), ("call f 0",)), ((("shl 2", X), ("shl 12", X)), ("shl 12", X)), ((("neg", X), ("flip", X)), ("flip", X)),
            ((("add", X, A), ("add", A, X), ("add", ("call f 0",), X)), ("add", ("call f 0",), X)), ((TRUE, FALSE, P), P), ((TRUE, FALSE), FALSE),
            ((("neg", ("add", A, B)), ("add", ("neg", B), A), ("add", A, ("neg", B))), ("add", ("neg", B), A)),
            ((("mul", A, B), ("shl 3", ("neg", X))), ("mul", A, B)), ((("call f 0", ("call f 0",)), ("neg", A)), ("call f 0", ("call f 0",))),
            ((("add", A, ("neg", X)), ("add", name("aa"), ("neg", A))), ("add", A, ("neg", X))),
            ((("add", ("call f 0", X), Y), ("add", ("call f 0",), ("neg", Y))), ("add", ("call f 0",), ("neg", Y))),
            ((("add", ("call f 0", ("call f 0",)), Y), ("add", ("call f 0",), ("neg", Y))), ("add", ("call f 0", ("call f 0",)), Y)),
        ):
            for some in (terms, terms[::-1]):
                classes = Classes()
                for one in some[1:]:
                    classes.join(some[0], one, None)
                self.assertEqual(classes.first_term(0 if classes.places == (0,) else classes.class_of(terms[0])), first)

    def test_anew(self):
        classes = Classes()
        top = classes.put(("mul", ("add", X, ("neg", Y)), ("add", X, ("neg", Y))))
        self.assertEqual(classes.first_term(top), ("mul", ("add", X, ("neg", Y)), ("add", X, ("neg", Y))))
        classes.join(("neg", Y), Z, None)
        self.assertEqual(classes.first_term(top), ("mul", ("add", X, Z), ("add", X, Z)))
        classes.join(("add", X, Z), A, None)
        self.assertEqual(classes.first_term(top), ("mul", A, A))
        classes.join(number(5), A, None)
        self.assertEqual(classes.first_term(top), ("mul", number(5), number(5)))
        copy = classes.copy()
        copy.join(("mul", A, A), number(25), None)
        self.assertEqual((copy.first_term(top), classes.first_term(top)), (number(25), ("mul", number(5), number(5))))


class TestCopies(unittest.TestCase):
    def test_copies(self):
        for seed in range(10):
            for _, _, classes, slow, _ in pair_of(300 + seed, 8, 5):
                pass
            copy = classes.copy()
            self.assertTrue(copy == classes and classes == copy and slow.same_as(copy))
            new = ("flip", ("flip", name("new")))
            self.assertEqual(copy.put(new), slow.many_made + 2)
            self.assertTrue(slow.same_as(classes))
            self.assertFalse(copy == classes)
            self.assertEqual(classes.put(new), slow.put(new))
            self.assertTrue(copy == classes)
            classes.join(new, X, 5)
            self.assertTrue(copy.class_of(new) != copy.class_of(X) and not copy == classes)
            copy.join(new, X, 5)
            self.assertTrue(copy == classes)

    def test_how_many_were_made(self):
        classes = Classes()
        for term in (X, Y, Z):
            classes.put(term)
        classes.join(X, Z, None)
        self.assertEqual(classes.copy().put(A), 3)

    def test_equality(self):
        def made(*joins):
            classes = Classes()
            classes.put(("add", X, Y))
            for one, other, why in joins:
                classes.join(one, other, why)
            return classes
        self.assertTrue(made() == made())
        self.assertTrue(made((X, Y, [1])) == made((X, Y, (1,))))
        self.assertFalse(made((X, Y, 1)) == made((X, Y, 2)))
        self.assertFalse(made((X, Y, 1)) == made((Y, X, 1)))
        self.assertFalse(made((X, Y, 1)) == made())
        one, other = Classes(), Classes()
        one.put(X)
        other.put(Y)
        self.assertFalse(one == other)
        for value in STRANGE + [0, ()]:
            self.assertFalse(one == value)


class TestErrors(Raises, unittest.TestCase):
    def check_same(self, classes, action, error, fields, *arguments):
        copy = classes.copy()
        self.check(error, fields, action, *arguments)
        self.assertTrue(copy == classes)
        self.assertEqual(copy.put(name("next")), classes.copy().put(name("next")))

    def test_terms(self):
        classes = Classes()
        classes.put(("add", X, Y))
        for bad in STRANGE + [5, "x", (), ("add", A), ("add", A, P), ("name", "true")]:
            self.check_same(classes, classes.put, BadTerm, {"part": "term"}, bad)
            self.check_same(classes, classes.class_of, BadTerm, {"part": "term"}, bad)
            self.check_same(classes, classes.join, BadTerm, {"part": "one"}, bad, bad, 1)
            self.check_same(classes, classes.join, BadTerm, {"part": "other"}, A, bad, 1)

    def test_kinds(self):
        classes = Classes()
        classes.put(("add", X, Y))
        for one, other in ((A, P), (TRUE, ("neg", A)), (("eq", A, A), ("at", A)), (Q, X)):
            self.check_same(classes, classes.join, Misfit, {"part": "kinds"}, one, other, 1)
        self.assertEqual(classes.places, (0, 1, 2))

    def test_no_class(self):
        classes = Classes()
        for term in (X, Y, Z):
            classes.put(term)
        classes.join(X, Y, None)
        for bad in STRANGE + [1, 3, -1, "0", 10 ** 90, X, (), [0]]:
            for action in (classes.nodes, classes.kind, classes.first_term):
                self.check_same(classes, action, NoClass, {"value": bad}, bad)
        self.assertEqual((classes.nodes(place=2), classes.kind(place=0), classes.first_term(place=0)), ((Z,), "word", X))


if __name__ == "__main__":
    unittest.main()
