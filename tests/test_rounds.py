"""Rounds, and classes that are grown."""

import random
import unittest

from helpers import P, STRANGE, TRUE, X, Y, DrawCalls, Raises, as_lists, name, number
from leastequal.calls import folded, turned
from leastequal.classes import Classes
from leastequal.errors import BadBook, BadClasses, BadNumber, BadTerm, Misfit, TooMany
from leastequal.leads import Lead
from leastequal.matching import folds, matches, turns
from leastequal.meaning import value
from leastequal.program import Function, Program
from leastequal.rounds import Grown, grown, round_of
from leastequal.rules import Book, Rule
from leastequal.shelves import Shelf
from leastequal.terms import levels_of, names_in, flags_in, put_in, size_of
from slow_classes import drawn_joins
from slow_rules import balanced

A, B, I = name("a"), name("b"), name("i")
ONE, ZERO, TWO = number(1), number(0), number(2)
RULES = [
    Rule("swap", ("add", X, Y), ("add", Y, X), 2), Rule("zero", ("add", X, ZERO), X, 1), Rule("double", ("add", X, X), ("shl 1", X), 2),
    Rule("choice", ("if", P, X, X), X, 1), Rule("no", ("if", ("no", P), X, Y), ("if", P, Y, X), 2), Rule("same", ("eq", X, X), TRUE, 1),
    Rule("minus", ("neg", ("neg", X)), X, 1), Rule("back", ("add", ("neg", X), X), ZERO, 1),
]
UP = Function("up", ["i"], [("add", I, ONE)])
TWICE = Function("twice", ["t"], [("add", name("t"), TWO)])
PAIR = Function("pair", ["a", "b"], [("add", A, ONE), ("add", B, A)])
PROGRAM = Program(2, 3, [UP, TWICE, PAIR], ["n"], [])
DOUBLE = Lead("double", "up", "twice", [("shl 1", I)])
SHELF = Shelf(PROGRAM, Book(2, RULES), [DOUBLE])
BARE = Shelf(PROGRAM, Book(1, []), [])
LABELS = ["add", "add", "neg", "if", "eq", "no", "shl 1", "mul"]


def shelf_of(*rules):
    return Shelf(Program(2, 3, [], [], []), Book(2, rules), [])


def drawn(seed, many=4, size=7):
    rng = random.Random(seed)
    draw = DrawCalls(rng, [A, B, P, ZERO, ONE, TWO], LABELS, [UP, PAIR, TWICE])
    classes = Classes()
    for one, other in drawn_joins(rng, draw, many, size):
        if rng.random() < 0.6:
            classes.put(one)
        else:
            classes.join(one, other, None)
    return classes


def wanted_joins(classes, shelf):
    """What a round joins: pairs of terms and reasons, in the told order."""
    first = {place: classes.first_term(place) for place in classes.places}
    found = []
    for rule in shelf.rules:
        for way in (1, -1)[:rule.ways]:
            side, partner = (rule.left, rule.right)[::way]
            leaves = sorted(names_in(side) + flags_in(side))
            for _, places in matches(classes, rule, way):
                stands = tuple((leaf, first[place]) for leaf, place in zip(leaves, places))
                found.append((put_in(side, stands), put_in(partner, stands), (rule.name, way, stands)))
    for _, term in folds(classes):
        found.append((term, folded(term), ("fold", 1, (("term", term),))))
    for _, label, count, places in turns(classes, shelf.program):
        term = (label, number(count), *[first[place] for place in places])
        found.append((term, turned(shelf.program, term), ("turn", 1, (("term", term),))))
    return found


class TestRound(Raises, unittest.TestCase):
    def look_at(self, classes, shelf, most):
        """Does a round and looks at it: what it returned."""
        ahead = classes.copy()
        wanted = wanted_joins(classes, shelf)
        found = round_of(classes, shelf, most)
        self.assertEqual([type(part) for part in found], [int, bool, bool])
        is_great = any(size_of(partner) > 2000 or levels_of(partner) > 60 for _, partner, _ in wanted)
        if len(wanted) > most or is_great:
            self.assertEqual(found, (min(most + 1, len(wanted)), True, False))
            self.assertTrue(ahead == classes)
            self.assertEqual(ahead.put(name("next")), classes.copy().put(name("next")))
            return found
        lay = [ahead.class_of(one) == ahead.class_of(other) for one, other, _ in wanted]
        behind = ahead.copy()
        for one, other, why in wanted:
            behind.join(one, other, why)
        self.assertTrue(behind == classes)
        self.assertEqual(behind.put(name("next")), classes.copy().put(name("next")))
        self.assertEqual(found, (len(wanted), False, all(lay)))
        self.assertIs(found[2], ahead == classes)
        return found

    def test_drawn(self):
        seen = {"cut": 0, "still": 0, "done": 0}
        for seed in range(40):
            classes = drawn(600 + seed)
            for most in (7, 1000, 12, 20):
                found = self.look_at(classes, SHELF, most)
                seen["cut" if found[1] else "still" if found[2] else "done"] += 1
        self.assertGreater(min(seen["cut"], seen["done"]), 15)

    def test_bare_shelf(self):
        still = 0
        for seed in range(30):
            classes = drawn(700 + seed, 2, 12)
            for _ in range(5):
                still += self.look_at(classes, BARE, 200)[2]
        self.assertGreater(still, 20)

    def test_most(self):
        for seed in range(10):
            classes = drawn(800 + seed)
            many = len(wanted_joins(classes, SHELF))
            if many > 1:
                self.assertEqual(self.look_at(classes, SHELF, many - 1), (many, True, False))
                self.assertEqual(self.look_at(classes, SHELF, many)[:2], (many, False))

    def test_most_in_each_kind(self):
        # The bound may be met among rules, folds or turns.
        classes = Classes()
        for term in (("add", A, B), ("add", ONE, TWO), ("neg", ONE), ("loop up 0", ONE, A), ("loop up 0", TWO, A)):
            classes.put(term)
        many = len(wanted_joins(classes, SHELF))
        for most in range(1, many + 3):
            self.look_at(classes.copy(), SHELF, most)

    def test_reasons(self):
        classes = Classes()
        classes.put(("add", ("if", P, A, A), ZERO))
        self.assertEqual(round_of(classes, shelf_of(RULES[1], RULES[3]), 10), (2, False, False))
        choice = ("if", P, A, A)
        self.assertEqual(classes.record, (
            (("add", choice, ZERO), choice, ("zero", 1, (("x", choice),))), (choice, A, ("choice", 1, (("p", P), ("x", A)))),
        ))

    def test_order_of_new_classes(self):
        classes = Classes()
        classes.put(("add", ("neg", A), ("neg", B)))
        self.look_at(classes, shelf_of(Rule("out", ("add", ("neg", X), ("neg", Y)), ("neg", ("add", X, Y)), 2)), 10)
        self.assertEqual(classes.nodes(5), (("add", 0, 2),))

    def test_first_terms_are_those_ahead(self):
        # a and b become one early in the round; what follows still tells the first terms from ahead of it.
        classes = Classes()
        for term in (("add", name("z"), ZERO), ("neg", ("neg", name("z")))):
            classes.put(term)
        classes.put(("neg", ("neg", ("add", name("z"), ZERO))))
        self.look_at(classes, shelf_of(RULES[1], RULES[6]), 10)

    def test_still(self):
        classes = Classes()
        classes.put(A)
        self.assertEqual(round_of(classes, SHELF, 1), (0, False, True))
        classes.join(("add", A, B), ("add", B, A), None)
        copy = classes.copy()
        self.assertEqual(round_of(classes=classes, most=4, shelf=shelf_of(RULES[0])), (4, False, True))
        self.assertTrue(copy == classes)

    def test_folds_that_join_numbers(self):
        classes = Classes()
        classes.join(("add", ONE, ONE), number(3), None)
        self.assertEqual(self.look_at(classes, BARE, 5), (1, False, False))
        self.assertEqual(classes.class_of(TWO), classes.class_of(number(3)))

    def test_call_rules(self):
        classes = Classes()
        place = classes.put(("call pair 1", ("call up 0", A), B))
        self.assertEqual(self.look_at(classes, BARE, 5), (2, False, False))
        self.assertEqual(classes.class_of(("add", B, ("add", A, ONE))), place)

    def test_turns(self):
        classes = Classes()
        place = classes.put(("loop pair 1", TWO, A, ("neg", B)))
        self.assertEqual(self.look_at(classes, BARE, 5), (1, False, False))
        self.assertEqual(classes.record[0][2], ("turn", 1, (("term", ("loop pair 1", TWO, A, ("neg", B))),)))
        self.assertEqual(classes.class_of(("loop pair 1", ONE, ("call pair 0", A, ("neg", B)), ("call pair 1", A, ("neg", B)))), place)

    def test_size_of_partners(self):
        wide = balanced("mul", [A] * 500)
        rule = Rule("mul", ("neg", X), ("mul", number(-1), X), 2)
        for size, cut in ((1997, False), (1999, True), (1998, False)):
            classes = Classes()
            term = balanced("mul", [A] * 999) if size < 1999 else balanced("mul", [A] * 1000)
            if size == 1998:
                term = ("neg", term)
            classes.put(("neg", term))
            self.assertEqual(size_of(term), size)
            found = self.look_at(classes, shelf_of(rule), 10)
            self.assertIs(found[1], cut)
        self.assertEqual(size_of(wide), 999)

    def test_size_at_each_rim(self):
        # The partner of (neg t) has two leaves or labels more than t.
        rule = Rule("plus", ("neg", X), ("neg", ("neg", ("neg", X))), 2)
        inner = balanced("mul", [A] * 998)
        for many, cut in ((0, False), (1, False), (2, False), (3, True)):
            classes = Classes()
            term = inner
            for _ in range(many):
                term = ("at", term)
            classes.put(("neg", term))
            self.assertEqual(size_of(term), 1995 + many)
            self.assertEqual(self.look_at(classes, shelf_of(rule), 10)[1], cut)

    def test_levels_of_partners(self):
        rule = Rule("plus", ("neg", X), ("neg", ("neg", ("neg", X))), 2)
        for many, cut in ((55, False), (56, False), (57, True)):
            classes = Classes()
            term = A
            for _ in range(many):
                term = ("at", term)
            classes.put(("neg", term))
            self.assertEqual(self.look_at(classes, shelf_of(rule), 10)[1], cut)

    def test_a_turn_of_a_great_part(self):
        for many, cut in ((1000, False), (1001, True)):
            classes = Classes()
            part = balanced("mul", [A] * many) if many == 1001 else ("neg", balanced("mul", [A] * 1000))
            self.assertEqual(size_of(part), 2000 if many == 1000 else 2001)
            classes.put(("loop up 0", ZERO, part))
            self.assertEqual(self.look_at(classes, BARE, 10)[1], cut)
        classes = Classes()
        classes.put(("loop pair 0", ONE, balanced("mul", [A] * 300), balanced("mul", [A] * 300)))
        self.assertTrue(self.look_at(classes, BARE, 10)[1])

    def test_small_first_terms_count(self):
        # The term that was put is great, but a smaller one lies in its class.
        classes = Classes()
        great = balanced("mul", [A] * 1500)
        classes.join(great, B, None)
        classes.put(("add", great, ZERO))
        self.assertEqual(self.look_at(classes, shelf_of(RULES[0], RULES[1]), 10)[:2], (3, False))

    def test_equal_values(self):
        for seed in range(12):
            classes = Classes()
            term = DrawCalls(random.Random(seed), [A, B, P, ZERO, ONE, TWO], LABELS, [UP, PAIR, TWICE]).term("word", 9)
            place = classes.put(term)
            for _ in range(2):
                round_of(classes, SHELF, 300)
            self.assertIn(place, classes.places)
            told = {"a": 5, "b": 6, "p": True}
            for width in (2, 3):
                worth = value(PROGRAM, term, width, told, {1: 3, 2: 2})
                self.assertEqual(value(PROGRAM, classes.first_term(place), width, told, {1: 3, 2: 2}), worth)

    def test_errors(self):
        classes = Classes()
        for bad in STRANGE + [5, ()]:
            self.check_part(BadClasses, "classes", round_of, bad, bad, 0)
            self.check_part(BadBook, "shelf", round_of, classes, bad, 0)
        self.check_part(BadBook, "shelf", round_of, classes, Book(1, []), 1)
        for bad in STRANGE + [0, 1001, "1", -1]:
            self.check_part(BadNumber, "most", round_of, classes, SHELF, bad)
        self.assertEqual(round_of(classes, SHELF, 1000), (0, False, True))


class TestGrown(Raises, unittest.TestCase):
    def slow(self, term, shelf, rounds, most):
        classes = Classes()
        classes.put(term)
        done, cut, still = 0, False, False
        for _ in range(rounds):
            _, cut, still = round_of(classes, shelf, most)
            if cut:
                break
            done += 1
            if still:
                break
        return classes, classes.class_of(term), done, cut, still

    def test_drawn(self):
        seen = set()
        for seed in range(30):
            draw = DrawCalls(random.Random(900 + seed), [A, B, P, ZERO, ONE, TWO], LABELS, [UP, PAIR, TWICE])
            term = draw.term("word" if seed % 4 else "truth", 9)
            for rounds in (0, 1, 2, 8):
                for shelf, most in ((SHELF, 100), (SHELF, 9), (BARE, 20), (shelf_of(*RULES[:3]), 40)):
                    if shelf.program != PROGRAM and ("call " in str(term) or "loop " in str(term)):
                        continue
                    told = grown(as_lists(term), shelf, rounds, most)
                    classes, place, done, cut, still = self.slow(term, shelf, rounds, most)
                    self.assertTrue(told.classes == classes)
                    self.assertEqual((told.place, told.rounds, told.cut, told.still), (place, done, cut, still))
                    seen.add((told.cut, told.still))
        self.assertEqual(seen, {(False, False), (True, False), (False, True)})

    def test_each_number_of_rounds(self):
        shelf = shelf_of(Rule("plus", ("neg", X), ("neg", ("neg", ("neg", X))), 2))
        for rounds in range(9):
            told = grown(("neg", A), shelf, rounds, 1000)
            self.assertEqual((told.rounds, told.cut, told.still), (min(rounds, 2), False, rounds > 1))
        self.assertEqual(grown(("neg", A), shelf, 0, 1).classes.many, 2)

    def test_place(self):
        # The term joins a class with a lesser number.
        told = grown(("add", A, ZERO), SHELF, 1, 10)
        self.assertEqual((told.place, told.classes.first_term(0)), (0, A))

    def test_its_own_classes(self):
        one, other = grown(("neg", A), SHELF, 1, 10), grown(("neg", A), SHELF, 1, 10)
        one.classes.put(B)
        self.assertFalse(one.classes == other.classes)

    def test_sizes(self):
        edge = ("neg", balanced("add", [A] * 100))
        tall = A
        for _ in range(29):
            tall = ("neg", tall)
        self.assertEqual(grown(edge, BARE, 0, 1).place, grown(edge, BARE, 1, 1).place)
        self.assertEqual(grown(tall, BARE, 0, 1).classes.many, 30)
        self.check(TooMany, {"what": "size", "most": 200}, grown, ("neg", edge), BARE, 0, 1)
        self.check(TooMany, {"what": "levels", "most": 30}, grown, ("neg", tall), BARE, 0, 1)
        self.check(TooMany, {"what": "size", "most": 200}, grown, ("add", ("neg", tall), ("neg", edge)), BARE, 0, 1)
        self.check_part(Misfit, "term", grown, ("add", edge, ("call gone 0",)), BARE, 0, 1)

    def test_what_does_not_fit(self):
        for term in (("call gone 0",), ("neg", ("call up 1", A)), ("call up 0",), ("eq", A, ("loop up 0", A, A, A)), ("if", P, A, ("loop pair 2", A, A, A))):
            self.check_part(Misfit, "term", grown, term, BARE, 0, 1)
        self.assertEqual(grown(("call up 0", A), BARE, 0, 1).rounds, 0)

    def test_flags_and_leaves(self):
        for term in (P, TRUE, A, ONE):
            told = grown(term, SHELF, 3, 5)
            self.assertEqual((told.place, told.rounds, told.cut, told.still), (0, 1, False, True))

    def test_errors(self):
        for bad in STRANGE + [5, ("add", A)]:
            self.check_part(BadTerm, "term", grown, bad, bad, -1, 0)
            self.check_part(BadBook, "shelf", grown, ("call gone 0",), bad, -1, 0)
        for bad in STRANGE + [-1, 9, "1"]:
            self.check_part(BadNumber, "rounds", grown, ("call gone 0",), BARE, bad, 0)
        for bad in STRANGE + [0, 1001, -1]:
            self.check_part(BadNumber, "most", grown, ("call gone 0",), BARE, 8, bad)
        told = grown(most=1000, rounds=8, shelf=BARE, term=A)
        self.assertEqual((told.place, told.still), (0, True))

    def test_the_class_grown(self):
        box = Classes()
        told = Grown(box, "p", None, 5, 6)
        self.assertIs(told.classes, box)
        self.assertEqual((told.place, told.rounds, told.cut, told.still), ("p", None, 5, 6))
        self.assertEqual(Grown(still=1, cut=2, rounds=3, place=4, classes=5).classes, 5)


if __name__ == "__main__":
    unittest.main()
