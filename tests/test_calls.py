"""Call rules, folds and turns."""

import unittest

from helpers import FALSE, P, STRANGE, TRUE, X, Y, Raises, as_lists, name, number, worth
from leastequal.calls import call_rules, folded, turned
from leastequal.errors import BadProgram, BadTerm, Misfit
from leastequal.program import Function, Program
from leastequal.rules import Rule
from slow_rules import balanced

RIM = 2147483647
A, B = name("a"), name("b")
PAIR = Function("pair", ["a", "b"], [("add", A, B), ("call up 0", A)])
UP = Function("up", ["i"], [("add", name("i"), number(1))])
MANY = Function("many", ["a"], [A, ("neg", A), number(4)])
NONE = Function("none", [], [number(7)])
FEW = Function("few", ["a", "b"], [A])
TRIPLE = Function("abc", ["a", "b", "c"], [B, name("c"), A])


def program(least=3, rounds=5):
    return Program(least, rounds, [UP, PAIR, MANY, NONE, FEW, TRIPLE], [], [])


class TestCallRules(Raises, unittest.TestCase):
    def test_order(self):
        rules = call_rules(program())
        wanted = [
            Rule("call up 0", ("call up 0", name("i")), UP.results[0], 1),
            Rule("call pair 0", ("call pair 0", A, B), PAIR.results[0], 1), Rule("call pair 1", ("call pair 1", A, B), PAIR.results[1], 1),
            Rule("call many 0", ("call many 0", A), A, 1), Rule("call many 1", ("call many 1", A), ("neg", A), 1),
            Rule("call many 2", ("call many 2", A), number(4), 1), Rule("call none 0", ("call none 0",), number(7), 1),
            Rule("call few 0", ("call few 0", A, B), A, 1),
        ]
        self.assertIsInstance(rules, tuple)
        self.assertEqual(list(rules)[:8], wanted)
        self.assertEqual([rule.name for rule in rules[8:]], ["call abc 0", "call abc 1", "call abc 2"])
        self.assertEqual(call_rules(program=Program(1, 0, [], [], [])), ())

    def test_great_results(self):
        edge = ("neg", balanced("add", [A] * 100))
        over = ("neg", edge)
        function = Function("f", ["a"], [over, edge, over])
        self.assertEqual([(rule.name, rule.right) for rule in call_rules(Program(1, 0, [function], [], []))], [("call f 1", edge)])
        self.assertEqual(call_rules(Program(1, 0, [Function("f", ["a"], [over])], [], [])), ())
        tall = A
        for _ in range(29):
            tall = ("neg", tall)
        self.assertEqual(call_rules(Program(1, 0, [Function("f", ["a"], [tall])], [], []))[0].right, tall)

    def test_errors(self):
        for bad in STRANGE + [5, "p", [UP]]:
            self.check_part(BadProgram, "program", call_rules, bad)


class TestFolded(Raises, unittest.TestCase):
    def folds(self, label, numbers, made):
        self.assertEqual(folded((label, *[number(n) for n in numbers])), number(made))

    def refused(self, term):
        self.check_part(Misfit, "fold", folded, term)

    def test_labels(self):
        self.folds("add", (3, -5), -2)
        self.folds("sub", (3, 5), -2)
        self.folds("mul", (-3, 5), -15)
        self.folds("and", (-1, 12), 12)
        self.folds("and", (-4, -6), -8)
        self.folds("or", (-8, 3), -5)
        self.folds("or", (5, 10), 15)
        self.folds("xor", (-1, 5), -6)
        self.folds("xor", (6, 3), 5)
        self.folds("neg", (5,), -5)
        self.folds("neg", (0,), 0)
        self.folds("flip", (5,), -6)
        self.folds("flip", (-1,), 0)
        self.folds("shl 1", (-3,), -6)
        self.folds("shl 30", (1,), 2 ** 30)
        self.folds("shl 31", (0,), 0)
        self.assertEqual(folded(term=as_lists(("add", number(1), number(2)))), number(3))

    def test_rims(self):
        self.folds("add", (RIM - 1, 1), RIM)
        self.folds("add", (1 - RIM, -1), -RIM)
        self.folds("sub", (-1, RIM - 1), -RIM)
        self.folds("mul", (RIM, -1), -RIM)
        self.folds("mul", (46340, 46340), 2147395600)
        self.folds("neg", (-RIM,), RIM)
        self.folds("flip", (RIM - 1,), -RIM)
        self.folds("flip", (-RIM,), RIM - 1)
        self.folds("shl 1", (-(2 ** 30 - 1),), 2 - 2 ** 31)
        self.folds("and", (-RIM, -RIM), -RIM)
        for label, numbers in (
            ("add", (RIM, 1)), ("add", (-RIM, -1)), ("sub", (RIM, -1)), ("sub", (-2, RIM)), ("mul", (46341, 46341)), ("mul", (65536, -32768)),
            ("flip", (RIM,)), ("shl 31", (1,)), ("shl 31", (-1,)), ("shl 1", (2 ** 30,)), ("and", (-RIM, -2)),
        ):
            self.refused((label, *[number(n) for n in numbers]))

    def test_what_does_not_fold(self):
        one = number(1)
        for term in (
            one, X, P, TRUE, FALSE, ("at", one), ("if", TRUE, one, one), ("eq", one, one), ("lt", one, one), ("less", one, one),
            ("both", TRUE, TRUE), ("either", TRUE, TRUE), ("no", TRUE), ("call f 0",), ("call f 0", one), ("loop f 0", one, one),
            ("add", one, X), ("add", X, one), ("sub", ("neg", one), one), ("neg", X), ("shl 2", ("add", one, one)), ("flip", ("at", one)),
        ):
            self.refused(term)

    def test_same_value_at_all_widths(self):
        for label in ("add", "sub", "mul", "and", "or", "xor"):
            for one in (-9, -1, 0, 3, 14):
                for other in (-7, 0, 1, 12):
                    term = (label, number(one), number(other))
                    for width in (1, 3, 7):
                        self.assertEqual(worth(term, width, {}, {}), worth(folded(term), width, {}, {}))

    def test_errors(self):
        for bad in STRANGE + [5, "x", ("add", number(1)), ("add", number(1), number(RIM + 1))]:
            self.check_part(BadTerm, "term", folded, bad)


class TestTurned(Raises, unittest.TestCase):
    def refused(self, where, term):
        self.check_part(Misfit, "loop", turned, where, term)

    def test_zero(self):
        for index, made in enumerate((X, ("neg", Y))):
            self.assertEqual(turned(program(), (f"loop pair {index}", number(0), X, ("neg", Y))), made)
        self.assertEqual(turned(program(1, 0), ("loop up 0", number(0), X)), X)
        self.assertEqual(turned(term=["loop up 0", ["number", 0], ["name", "x"]], program=program()), X)

    def test_counts(self):
        for least, rounds, most in ((3, 5, 5), (3, 100, 7), (1, 5, 1), (2, 3, 3), (8, 1000, 255), (8, 255, 255), (4, 1, 1), (5, 0, 0)):
            where = program(least, rounds)
            for count in (1, 2, most - 1, most, most + 1, rounds, rounds + 1, 2 ** least - 1, 2 ** least, -1):
                term = ("loop pair 1", number(count), X, Y)
                if 1 <= count <= most:
                    calls = (("call pair 0", X, Y), ("call pair 1", X, Y))
                    self.assertEqual(turned(where, term), ("loop pair 1", number(count - 1), *calls))
                elif count != 0:
                    self.refused(where, term)

    def test_three_results(self):
        parts = (X, Y, ("call no 0",))
        calls = tuple((f"call abc {index}", *parts) for index in range(3))
        self.assertEqual(turned(program(), ("loop abc 2", number(2), *parts)), ("loop abc 2", number(1), *calls))

    def test_same_value(self):
        where = program()
        for count in range(6):
            term = ("loop abc 1", number(count), X, number(2), Y)
            for width in (3, 4):
                told = {X: 5, Y: 3}
                values = [worth(one, width, told, {}, where.functions, where.rounds) for one in (term, turned(where, term))]
                self.assertEqual(values[0], values[1])

    def test_what_does_not_turn(self):
        zero = number(0)
        for term in (
            ("loop gone 0", zero, X), ("loop up 1", zero, X), ("loop up 0", zero, X, X), ("loop pair 0", zero, X), ("loop many 0", zero, X),
            ("loop few 0", zero, X, Y), ("loop few 0", zero, X), ("loop none 0", zero, X), ("loop up 0", X, X), ("loop up 0", ("neg", zero), X),
            ("call up 0", zero), ("call none 0",), zero, X, P, TRUE, ("add", zero, X), ("neg", ("loop up 0", zero, X)), ("loop pair 2", zero, X, Y),
        ):
            self.refused(program(), term)

    def test_errors(self):
        for bad in STRANGE + [5, UP]:
            self.check_part(BadProgram, "program", turned, bad, bad)
        for bad in STRANGE + [5, ("loop up 0", number(0))]:
            self.check_part(BadTerm, "term", turned, program(), bad)


if __name__ == "__main__":
    unittest.main()
