"""How sides match terms and classes, folds and turns."""

import itertools
import random
import unittest

from helpers import FALSE, P, Q, STRANGE, TRUE, X, Y, Z, DrawCalls, Raises, as_lists, flag, has_no_list, kind, name, number
from leastequal.calls import folded, turned
from leastequal.classes import Classes
from leastequal.errors import BadClasses, BadNumber, BadProgram, BadRule, BadTerm, Misfit, TooMany
from leastequal.matching import folds, matched, matches, turns
from leastequal.program import Function, Program
from leastequal.rules import Rule
from leastequal.terms import put_in
from slow_classes import all_matches, classes_of, drawn_joins

A, B, C = name("a"), name("b"), name("c")
ONE, ZERO, TWO = number(1), number(0), number(2)
UP = Function("up", ["x"], [("add", X, ONE)])
PAIR = Function("pair", ["a", "b"], [("add", A, B), A])
FEW = Function("few", ["a", "b"], [A])
PROGRAM = Program(2, 3, [UP, PAIR, FEW], [], [])
SIDES = [
    ("add", X, Y), ("add", X, X), ("add", X, ("add", Y, Z)), ("add", ("neg", X), X), ("neg", ("neg", X)), ("add", X, ZERO), ("if", P, X, Y),
    ("if", P, X, X), ("if", ("no", P), ("neg", X), Y), ("add", ("if", P, X, Y), ("if", P, Y, X)), ("no", P), ("both", P, Q), ("both", P, P),
    ("eq", X, Y), ("eq", ("add", X, Y), ("add", Y, X)), ONE, TRUE, ("neg", ONE), ("call up 0", X), ("loop pair 1", X, Y, Z), ("loop pair 0", X, Y, Y),
    ("add", ("add", X, Y), ("neg", ("add", X, Y))), ("at", ("add", X, X)), ("shl 2", X), ("neg", ("call gone 0",)), ("add", ("add", ("add", X, ZERO), ZERO), Y),
    ("add", ("add", X, Y), ("add", X, Z)), ("add", ("add", X, Y), ("add", Z, X)), ("add", ("add", Y, X), ("neg", ("add", Z, X))),
    ("add", ("if", P, X, Y), ("if", P, X, X)), ("if", ("eq", X, Y), ("add", X, Z), Y),
]
LABELS = ["add", "add", "neg", "if", "eq", "no", "both", "shl 2", "at"]


def drawn(seed, many=8, size=8):
    rng = random.Random(seed)
    draw = DrawCalls(rng, [A, B, P, TRUE, ZERO, ONE], LABELS, [UP, PAIR])
    classes = Classes()
    for one, other in drawn_joins(rng, draw, many, size):
        if rng.random() < 0.5:
            classes.put(one)
        else:
            classes.join(one, other, None)
    return classes


class TestMatched(Raises, unittest.TestCase):
    def test_each_label(self):
        for label, sides in (
            ("add", (X, Y)), ("sub", (X, Y)), ("mul", (X, Y)), ("and", (X, Y)), ("or", (X, Y)), ("xor", (X, Y)), ("neg", (X,)), ("flip", (X,)),
            ("shl 1", (X,)), ("shl 31", (X,)), ("at", (X,)), ("if", (P, X, Y)), ("eq", (X, Y)), ("lt", (X, Y)), ("less", (X, Y)), ("both", (P, Q)),
            ("either", (P, Q)), ("no", (P,)), ("call f 0", ()), ("call f 1", (X, Y)), ("loop f 0", (X, Y)), ("loop f 5", (X, Y, Z)),
        ):
            stands = {"x": ("neg", A), "y": ONE, "z": B, "p": ("eq", A, B), "q": TRUE}
            parts = [stands[side[1]] for side in sides]
            wanted = tuple(sorted((side[1], stands[side[1]]) for side in sides))
            self.assertEqual(matched((label, *sides), (label, *parts)), wanted)
            self.assertIsNone(matched((label, *sides), ("neg", ("neg", A))) if label != "neg" else None)
        for side, term in (
            (("shl 1", X), ("shl 2", X)), (("call f 0", X), ("call f 1", X)), (("call f 0", X), ("call f 0", X, Y)), (("call f 0",), ("call f 0", X)),
            (("loop f 0", X, Y), ("loop g 0", X, Y)), (("call f 0", X, Y), ("loop f 0", X, Y)), (("add", X, Y), ("sub", X, Y)), (("at", X), X),
        ):
            self.assertIsNone(matched(side, term))

    def test_leaves(self):
        self.assertEqual(matched(X, ("add", A, B)), (("x", ("add", A, B)),))
        self.assertEqual(matched(P, ("no", P)), (("p", ("no", P)),))
        self.assertEqual((matched(ONE, ONE), matched(TRUE, TRUE), matched(number(-3), number(-3))), ((), (), ()))
        for side, term in ((X, P), (P, X), (X, TRUE), (P, ONE), (ONE, TWO), (ONE, X), (TRUE, FALSE), (TRUE, P), (ONE, ("neg", ONE)), (("neg", ONE), ("neg", TWO))):
            self.assertIsNone(matched(side, term))

    def test_what_stands_twice(self):
        self.assertEqual(matched(("add", X, X), ("add", A, A)), (("x", A),))
        self.assertIsNone(matched(("add", X, X), ("add", A, B)))
        self.assertIsNone(matched(("add", X, ("neg", X)), ("add", ("neg", A), A)))
        self.assertEqual(matched(("both", P, ("no", P)), ("both", Q, ("no", Q))), (("p", Q),))
        self.assertIsNone(matched(("both", P, ("no", P)), ("both", Q, ("no", P))))
        self.assertEqual(matched(("add", Y, X), ("add", X, Y)), (("x", Y), ("y", X)))

    def test_drawn(self):
        rng = random.Random(31)
        draw = DrawCalls(rng, [A, B, P, TRUE, ONE], LABELS, [UP, PAIR])
        for _ in range(300):
            side = rng.choice(SIDES)
            stands = {spelling: draw.term("word", 5) for spelling in "xyz"}
            stands.update({spelling: draw.term("truth", 5) for spelling in "pq"})
            term = put_in(side, stands)
            found = matched(as_lists(side), as_lists(term))
            self.assertTrue(has_no_list(found))
            self.assertEqual(put_in(side, found), term)
            self.assertEqual(found, tuple((key, stands[key]) for key in sorted(stands) if key in {leaf[0] for leaf in found}))
            other = draw.term(kind(side), 6)
            found = matched(side, other)
            if found is not None:
                self.assertEqual(put_in(side, found), other)

    def test_errors(self):
        for bad in STRANGE + [5, "x", ("add", X), ("if", flag("x"), X, Y), ("both", P, ("eq", name("p"), X))]:
            self.check_part(BadTerm, "side", matched, bad, bad)
        for bad in STRANGE + [5, "x", ("add", X)]:
            self.check_part(BadTerm, "term", matched, X, bad)
        self.assertEqual(matched(term=("if", flag("x"), X, Y), side=Z), (("z", ("if", flag("x"), X, Y)),))


class TestMatches(Raises, unittest.TestCase):
    def both(self, classes, side):
        """The matches of a side by the one way and by the other one."""
        found = matches(classes, Rule("r", side, side, 2), 1)
        self.assertEqual(matches(classes, Rule("r", side, side, 2), -1), found)
        self.assertTrue(has_no_list(found))
        return found

    def test_drawn(self):
        many = {side: 0 for side in SIDES}
        for seed in range(50):
            classes = drawn(400 + seed)
            copy = classes.copy()
            for side in SIDES:
                found = self.both(classes, side)
                self.assertEqual(found, all_matches(classes, side))
                many[side] += len(found)
            self.assertTrue(copy == classes)
        self.assertGreater(len([side for side in SIDES if many[side]]), 18)

    def test_few_classes(self):
        # Classes that hold themselves, and numbers joined with one another.
        for pairs in (
            [(("neg", A), A)], [(("add", A, ZERO), A)], [(("add", A, ZERO), A), (("neg", A), ZERO)], [(ONE, ZERO), (("add", ONE, A), A)],
            [(("add", A, B), A), (("add", A, B), B)], [(("if", P, A, B), A), (("no", P), P)], [(("add", A, A), ("neg", A)), (("neg", A), A)],
        ):
            classes = classes_of(*pairs)
            for side in SIDES:
                self.assertEqual(self.both(classes, side), all_matches(classes, side))

    def test_leaves_that_are_told_already(self):
        # A class with many sums: those with the wanted first or second part are found.
        for seed in range(10):
            rng = random.Random(seed)
            classes = Classes()
            names = [name(f"a{index}") for index in range(6)]
            for _ in range(14):
                classes.join(C, ("add", rng.choice(names), rng.choice(names)), None)
            for label in ("add", "mul"):
                classes.put((label, C, C))
            classes.put(("add", C, rng.choice(names)))
            for side in (
                ("mul", ("add", X, Y), ("add", X, Z)), ("mul", ("add", X, Y), ("add", Z, X)), ("mul", ("add", X, Y), ("add", Y, Z)), ("add", ("add", X, Y), ("add", Z, Y)),
                ("add", ("add", X, Y), Y), ("mul", ("add", X, X), ("add", X, Y)),
            ):
                self.assertEqual(self.both(classes, side), all_matches(classes, side))

    def test_unlike_numbers_of_parts(self):
        # Calls and loops that do not fit may stand in a class beside each other.
        for pairs in (
            [(("call f 0", A), ("call f 0", A, ONE)), (("call f 0", A), ("call f 0",))], [(("call f 0",), ("call f 0", A)), (("call f 0",), ("call f 0", ONE, A))],
            [(("loop f 0", ONE, A), ("loop f 0", ONE, A, B)), (("call f 0", ONE, A, B), A)],
        ):
            for some in (pairs, pairs[::-1]):
                classes = classes_of(*some)
                classes.put(("neg", ("call f 0", A, ONE)))
                for side in (
                    ("call f 0",), ("call f 0", X), ("call f 0", X, Y), ("call f 0", X, ONE), ("call f 0", ONE), ("neg", ("call f 0", X, ONE)), ("neg", ("call f 0", X)),
                    ("loop f 0", X, Y), ("loop f 0", X, Y, Z), ("loop f 0", ONE, X, X), ("call f 0", ONE, X, Y),
                ):
                    self.assertEqual(self.both(classes, side), all_matches(classes, side))

    def test_ways(self):
        classes = classes_of((("neg", A), ("add", B, C)))
        rule = Rule("r", ("add", X, Y), ("sub", Y, X), 2)
        classes.put(("sub", A, B))
        self.assertEqual((matches(classes, rule, 1), matches(classes, rule, -1)), (((1, (2, 3)),), ((5, (2, 0)),)))
        one = Rule("one", ("add", X, Y), X, 1)
        self.assertEqual(matches(classes, one, 1), ((1, (2, 3)),))
        self.assertEqual(matches(rule=one, way=1, classes=classes), ((1, (2, 3)),))
        self.check_part(Misfit, "way", matches, classes, one, -1)

    def test_names_of_the_side(self):
        # The right side of a rule of ways 1 may lack names; those of the side that is looked for count.
        classes = classes_of((("add", A, B), C))
        self.assertEqual(matches(classes, Rule("r", ("add", name("z"), name("m")), ONE, 1), 1), ((2, (1, 0)),))

    def test_ten_thousand(self):
        classes = Classes()
        for index in range(100):
            classes.join(("neg", name("a0")), ("neg", name(f"a{index}")), None)
        wide = Rule("wide", ("add", ("neg", X), ("neg", Y)), ("add", ("neg", Y), ("neg", X)), 2)
        top = classes.put(("add", ("neg", A), ("neg", B)))
        for leaf in (A, B):
            classes.join(("neg", leaf), ("neg", name("a0")), None)
        some = Classes()
        first = ("neg", name("a0"))
        for index in range(1, 100):
            some.join(first, ("neg", name(f"a{index}")), None)
        place = some.put(("add", first, first))
        found = matches(some, wide, 1)
        self.assertEqual((len(found), {one for one, _ in found}), (10000, {place}))
        self.assertEqual(found, tuple(sorted(found)))
        some.put(("add", ("neg", name("new")), ("neg", name("new"))))
        for way in (1, -1):
            self.check(TooMany, {"what": "matches", "most": 10000}, matches, some, wide, way)
            self.check(TooMany, {"what": "matches", "most": 10000}, matches, classes, wide, way)
        self.assertEqual(classes.kind(top), "word")

    def test_great_sides(self):
        # Many ways that lead nowhere are left at once.
        classes = Classes()
        term = name("a0")
        for index in range(1, 20):
            classes.join(("add", term, term), ("add", name(f"a{index}"), name(f"b{index}")), None)
        side = X
        for index in range(9):
            side = ("add", side, ("add", name(f"y{index}"), name(f"z{index}")))
        self.assertEqual(self.both(classes, ("add", side, ("mul", X, X))), ())
        self.assertEqual(self.both(classes, ("mul", side, side)), ())
        self.assertEqual(self.both(classes, side), ())

    def test_errors(self):
        rule, classes = Rule("r", ("add", X, Y), X, 1), Classes()
        for bad in STRANGE + [5, (), [], rule]:
            self.check_part(BadClasses, "classes", matches, bad, bad, 0)
        for bad in STRANGE + [5, "r", (X, Y), classes]:
            self.check_part(BadRule, "rule", matches, classes, bad, 0)
        for bad in STRANGE + [0, 2, -2, "1", 1.0]:
            self.check_part(BadNumber, "way", matches, classes, rule, bad)


class TestFolds(Raises, unittest.TestCase):
    def slow(self, classes):
        found = []
        for place in classes.places:
            for node in classes.nodes(place):
                if node[0] not in ("number", "name", "flag", "true", "false"):
                    numbers = [[leaf for leaf in classes.nodes(part) if leaf[0] == "number"] for part in node[1:]]
                    for some in itertools.product(*numbers):
                        try:
                            folded((node[0], *some))
                            found.append((place, (node[0], *some)))
                        except Misfit:
                            pass
        return tuple(sorted(found))

    def test_drawn(self):
        seen = 0
        for seed in range(60):
            rng = random.Random(500 + seed)
            draw = DrawCalls(rng, [A, ZERO, ONE, number(-1), number(2147483647), TRUE], ["add", "sub", "mul", "and", "or", "xor", "neg", "flip", "shl 1", "eq", "if"], [UP])
            classes = Classes()
            for one, other in drawn_joins(rng, draw, 6, 6):
                classes.join(one, other, None)
            copy = classes.copy()
            found = folds(classes)
            self.assertEqual(found, self.slow(classes))
            self.assertTrue(copy == classes and has_no_list(found))
            seen += len(found)
        self.assertGreater(seen, 60)

    def test_several_numbers(self):
        classes = classes_of((ONE, ZERO), (TWO, number(-5)))
        place = classes.put(("add", ONE, TWO))
        self.assertEqual(folds(classes), tuple((place, ("add", number(one), number(other))) for one in (0, 1) for other in (-5, 2)))
        classes.put(("shl 31", ONE))
        self.assertEqual(folds(classes)[-1], (place + 1, ("shl 31", ZERO)))
        self.assertEqual(len(folds(classes=classes)), 5)

    def test_rims(self):
        rim = number(2147483647)
        classes = Classes()
        for term in (("add", rim, ONE), ("add", rim, ZERO), ("neg", rim), ("flip", rim), ("shl 1", rim), ("mul", rim, rim), ("at", rim), ("if", TRUE, rim, rim)):
            classes.put(term)
        self.assertEqual([term for _, term in folds(classes)], [("add", rim, ZERO), ("neg", rim)])

    def test_errors(self):
        for bad in STRANGE + [5, ()]:
            self.check_part(BadClasses, "classes", folds, bad)


class TestTurns(Raises, unittest.TestCase):
    def test_bounds(self):
        for least, rounds, most in ((1, 5, 1), (2, 5, 3), (3, 5, 5), (8, 0, 0), (2, 3, 3), (2, 2, 2)):
            program = Program(least, rounds, [UP, PAIR, FEW], [], [])
            classes = Classes()
            wanted = []
            for count in (-1, 0, 1, 2, 3, 4, 5, 6, 255):
                term = ("loop pair 1", number(count), A, B)
                place = classes.put(term)
                state = (classes.class_of(A), classes.class_of(B))
                if 0 <= count <= most:
                    wanted.append((place, "loop pair 1", count, state))
                    self.assertNotEqual(turned(program, term), term)
            self.assertEqual(turns(classes, program), tuple(sorted(wanted)))

    def test_several_numbers(self):
        classes = classes_of((ONE, ZERO))
        place = classes.put(("loop up 0", ONE, A))
        inner = classes.class_of(A)
        self.assertEqual(turns(classes, PROGRAM), ((place, "loop up 0", 0, (inner,)), (place, "loop up 0", 1, (inner,))))
        classes.join(TWO, ONE, None)
        classes.join(number(9), ONE, None)
        self.assertEqual([turn[2] for turn in turns(program=PROGRAM, classes=classes)], [0, 1, 2])

    def test_a_class_of_several(self):
        classes = classes_of((("loop up 0", ONE, A), ("loop pair 0", TWO, A, B)), (("loop up 0", ONE, A), ("loop pair 0", ZERO, ("neg", A), B)))
        place = classes.class_of(("loop up 0", ONE, A))
        a, b, minus = [classes.class_of(term) for term in (A, B, ("neg", A))]
        self.assertEqual(turns(classes, PROGRAM), (
            (place, "loop pair 0", 0, (minus, b)), (place, "loop pair 0", 2, (a, b)), (place, "loop up 0", 1, (a,)),
        ))

    def test_what_does_not_fit(self):
        classes = Classes()
        for term in (
            ("loop up 1", ONE, A), ("loop up 0", ONE, A, A), ("loop few 0", ONE, A, B), ("loop gone 0", ONE, A), ("loop pair 0", ONE, A), ("loop up 0", A, A),
            ("loop pair 2", ONE, A, A), ("call up 0", ONE), ("loop up 0", ("neg", ONE), A), ("loop up 0", number(4), A), ("loop up 0", number(-1), A),
        ):
            classes.put(term)
        copy = classes.copy()
        self.assertEqual(turns(classes, PROGRAM), ())
        classes.put(("loop up 0", ONE, ("call gone 5",)))
        self.assertEqual(len(turns(classes, PROGRAM)), 1)
        self.assertFalse(copy == classes)

    def test_stays(self):
        classes = drawn(1)
        copy = classes.copy()
        turns(classes, PROGRAM)
        self.assertTrue(copy == classes)

    def test_errors(self):
        for bad in STRANGE + [5, ()]:
            self.check_part(BadClasses, "classes", turns, bad, bad)
            self.check_part(BadProgram, "program", turns, Classes(), bad)


if __name__ == "__main__":
    unittest.main()
