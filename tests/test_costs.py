"""Costs and worths."""

import itertools
import random
import unittest

from helpers import P, STRANGE, TRUE, X, Y, DrawCalls, Raises, as_lists, name, number, parts
from leastequal.costs import Both, Depth, Needs, Weights, cost_of, work_weights
from leastequal.errors import BadCost, BadProgram, BadTerm, TooMany
from leastequal.program import Function, Program
from slow_rules import balanced

A, B = name("a"), name("b")
ONE = number(1)
WORDS = (
    "number name flag true false add sub mul and or xor neg flip shl at if call loop eq lt less both either no"
).split()
RIM = 10 ** 12
F = Function("f", ["a", "b"], [("add", A, B), A])
G = Function("g", [], [number(3)])
H = Function("h", ["a"], [("call f 0", A, ("loop f 1", A, A, A))])
LABELS = ["add", "sub", "mul", "and", "or", "xor", "neg", "flip", "shl 1", "shl 9", "at", "if", "eq", "lt", "less", "both", "either", "no"]


def drawn(seed, many):
    rng = random.Random(seed)
    draw = DrawCalls(rng, [X, Y, P, TRUE, ("false",), ONE], LABELS, [F, G, H])
    return [draw.term(rng.choice(["word", "truth"]), rng.randint(1, 25)) for _ in range(many)]


def weight(table, other, label):
    return table.get(label, table.get(label.split(" ")[0], other))


def slow_need(term):
    needs = [slow_need(part) for part in parts(term)]
    if not needs or term[0].startswith(("call ", "loop ")):
        return max(needs, default=1)
    return min(max(need + index for index, need in enumerate(some)) for some in itertools.permutations(needs))


class TestTables(Raises, unittest.TestCase):
    def test_keeps(self):
        for kind in (Weights, Depth):
            cost = kind({"mul": 3, "add": 5, "call f 0": 7}, 2)
            self.assertEqual((cost.table, cost.other), ((("add", 5), ("call f 0", 7), ("mul", 3)), 2))
            pairs = [["mul", 3], ["add", 5]]
            cost = kind(other=1, table=pairs)
            pairs[0][1] = 9
            pairs.pop()
            self.assertEqual((cost.table, cost.other), ((("add", 5), ("mul", 3)), 1))
            self.assertEqual(kind([], 1).table, kind({}, 1).table)
            self.assertEqual(len(kind([(word, 1) for word in WORDS], 1).table), 24)

    def test_keys(self):
        for kind in (Weights, Depth):
            for good in WORDS + ["call f 0", "loop abc1 5", "call true 3"]:
                self.assertEqual(kind([(good, 4)], 1).table, ((good, 4),))
            for bad in ("shl 1", "Add", "", "call f", "call f 6", "call f 00", "call F 0", "call f 0 ", "word", "at 1", "number 5", "call abcdefghi 0", "x"):
                self.check_part(BadCost, "table", kind, [(bad, 1)], 1)
                self.check_part(BadCost, "table", kind, {bad: 1}, 1)
            for table in STRANGE + [5, "add", [("add", 1), ("add", 1)], [("add", 1), ("add", 2)], [("add",)], ["ab"], [("add", 1, 1)], {0: 1}, {("add",): 1}, [(["add"], 1)], [5]]:
                self.check_part(BadCost, "table", kind, table, -1)

    def test_weights(self):
        for kind, least in ((Weights, 1), (Depth, 0)):
            for good in (least, 5, RIM):
                self.assertEqual(kind({"add": good}, good).other, good)
            for bad in STRANGE + [least - 1, RIM + 1, "1", 1.0, [1]]:
                self.check_part(BadCost, "table", kind, {"add": bad}, bad)
                self.check_part(BadCost, "table", kind, [("mul", 1), ("add", bad)], 1)
                self.check_part(BadCost, "other", kind, {"add": least}, bad)

    def test_both(self):
        first = Weights({"add": 2}, 1)
        for second in (Weights([], 3), Depth([], 0), Needs()):
            cost = Both(first, second)
            self.assertTrue(cost.first == first and cost.second == second)
        for bad in STRANGE + [5, Depth([], 1), Needs(), Both(first, first), Weights]:
            self.check_part(BadCost, "first", Both, bad, bad)
        for bad in STRANGE + [5, Both(first, first), Weights]:
            self.check_part(BadCost, "second", Both, first, bad)
        self.assertEqual(Both(second=Needs(), first=first), Both(first, Needs()))

    def test_equality(self):
        costs = [
            Weights({"add": 2, "mul": 3}, 1), Weights({"add": 2}, 1), Weights({"add": 2, "mul": 3}, 2), Weights({"add": 2, "mul": 4}, 1), Depth({"add": 2, "mul": 3}, 1),
            Depth({"add": 2}, 1), Depth({"add": 2}, 0), Needs(), Both(Weights({}, 1), Needs()), Both(Weights({}, 2), Needs()), Both(Weights({}, 1), Depth({}, 1)), Both(Weights({}, 1), Weights({}, 1)),
        ]
        for one, other in itertools.product(range(len(costs)), repeat=2):
            self.assertIs(costs[one] == costs[other], one == other)
        self.assertTrue(Weights([("mul", 3), ("add", 2)], 1) == costs[0] and Needs() == Needs())
        self.assertFalse(any(cost == value for cost in costs for value in STRANGE + [0, ()]))


class TestWorths(Raises, unittest.TestCase):
    def test_weights(self):
        rng = random.Random(51)
        for term in drawn(52, 150):
            table = {word: rng.randint(1, 99) for word in rng.sample(WORDS, 12)}
            table.update({label: rng.randint(1, 99) for label in rng.sample(["call f 0", "call f 1", "call g 0", "loop f 0", "loop h 0", "call h 0"], 3)})
            other = rng.randint(1, 99)

            def slow(one):
                return weight(table, other, one[0]) + sum(slow(part) for part in parts(one))
            self.assertEqual(cost_of(as_lists(term), Weights(table, other)), slow(term))

            def deep(one):
                return weight(table, other, one[0]) + max([deep(part) for part in parts(one)], default=0)
            self.assertEqual(cost_of(term, Depth(table, other)), deep(term))
            self.assertEqual(cost_of(term, Needs()), slow_need(term))
            for second in (Depth(table, other), Needs(), Weights([], 7)):
                pair = cost_of(cost=Both(Weights(table, other), second), term=term)
                self.assertEqual(pair, (slow(term), cost_of(term, second)))

    def test_each_word(self):
        terms = {
            "number": ONE, "name": X, "flag": P, "true": TRUE, "false": ("false",), "add": ("add", X, X), "sub": ("sub", X, X), "mul": ("mul", X, X), "and": ("and", X, X),
            "or": ("or", X, X), "xor": ("xor", X, X), "neg": ("neg", X), "flip": ("flip", X), "shl": ("shl 7", X), "at": ("at", X), "if": ("if", P, X, X),
            "call": ("call f 0", X, X), "loop": ("loop f 0", X, X, X), "eq": ("eq", X, X), "lt": ("lt", X, X), "less": ("less", X, X), "both": ("both", P, P),
            "either": ("either", P, P), "no": ("no", P),
        }
        self.assertEqual(sorted(terms), sorted(WORDS))
        for word, term in terms.items():
            rest = len(parts(term))
            self.assertEqual(cost_of(term, Weights({word: 100}, 1)), 100 + rest)
            self.assertEqual(cost_of(term, Depth({word: 100}, 1)), 100 + min(1, rest))
            self.assertEqual(cost_of(term, Depth({}, 0)), 0)

    def test_labels_go_ahead(self):
        table = {"call": 10, "call f 0": 20, "loop f 1": 5}
        for term, worth in ((("call f 0",), 20), (("call f 1",), 10), (("call g 0",), 10), (("loop f 1", X, X), 7), (("loop f 0", X, X), 3)):
            self.assertEqual(cost_of(term, Weights(table, 1)), worth)
        self.assertEqual(cost_of(("call f 0",), Depth({"call f 0": 0, "call": 9}, 3)), 0)

    def test_a_part_that_stands_twice(self):
        part = ("mul", X, Y)
        self.assertEqual(cost_of(("add", part, part), Weights({"mul": 7}, 1)), 19)
        self.assertEqual(cost_of(("add", part, part), Needs()), 3)

    def test_needs(self):
        for term, need in (
            (X, 1), (ONE, 1), (("neg", X), 1), (("add", X, Y), 2), (("if", P, X, Y), 3), (("if", ("eq", X, Y), X, Y), 3), (("if", ("eq", X, Y), ("add", X, Y), X), 3),
            (("if", ("eq", X, Y), ("add", X, Y), ("add", X, Y)), 4), (("call f 0",), 1), (("call f 0", X, Y), 1), (("call f 0", ("add", X, Y), X), 2),
            (("loop f 0", ("add", ("add", X, Y), ("add", X, Y)), X, X), 3), (("add", ("call f 0", ("add", X, Y)), ("add", X, Y)), 3),
        ):
            self.assertEqual(cost_of(term, Needs()), need)

    def test_great_worths(self):
        term = X
        for _ in range(90):
            term = ("neg", term)
        self.assertEqual(cost_of(term, Weights({"neg": RIM}, RIM)), 91 * RIM)

    def test_errors(self):
        for bad in STRANGE + [5, ("add", X)]:
            self.check_part(BadTerm, "term", cost_of, bad, bad)
        for bad in STRANGE + [5, (), Weights, {"add": 1}]:
            self.check_part(BadCost, "cost", cost_of, X, bad)


class TestWork(Raises, unittest.TestCase):
    def work(self, program, term):
        """The work of a term by the words of point [6]."""
        made = 1 + sum(self.work(program, part) for part in parts(term))
        if term[0].startswith(("call ", "loop ")):
            first, called, index = term[0].split(" ")
            function = [one for one in program.functions if one.name == called][0]
            results = [self.work(program, result) for result in function.results]
            made += results[int(index)] if first == "call" else sum(results) * program.rounds
        return made

    def test_drawn(self):
        for rounds in (0, 1, 7):
            program = Program(1, rounds, [F, G, H], [], [])
            cost = work_weights(program)
            self.assertEqual((type(cost), cost.other), (Weights, 1))
            for term in drawn(53, 80):
                self.assertEqual(cost_of(term, cost), self.work(program, term))

    def test_table(self):
        program = Program(1, 7, [F, G, H, Function("few", ["a", "b"], [A])], [], [])
        self.assertEqual([label for label, _ in work_weights(program).table], [
            "call f 0", "call f 1", "call few 0", "call g 0", "call h 0", "loop f 0", "loop f 1", "loop h 0",
        ])
        table = dict(work_weights(program).table)
        self.assertEqual((table["call f 0"], table["call f 1"], table["loop f 0"], table["loop f 1"], table["call g 0"]), (4, 2, 29, 29, 2))
        self.assertEqual(work_weights(program=Program(1, 0, [], [], [])).table, ())

    def test_the_rim(self):
        # Loops over loops weigh about 1000, 10^6 and 10^9; calls weigh 31 of them, so small terms reach each weight.
        loops = [Function("f0", ["a"], [A])]
        for index in (1, 2):
            loops.append(Function(f"f{index}", ["a"], [(f"loop f{index - 1} 0", A, A)]))
        many = Function("many", [], [balanced("add", [(f"loop f{index} 0", ONE, ONE)] * 31) for index in range(3)])
        heavy = [(f"call many {index}",) for index in (2, 1, 0)]
        light = [(f"loop f{index} 0", ONE, ONE) for index in (2, 1, 0)]
        table = work_weights(Program(1, 1000, [*loops, many], [], []))
        terms = [term for pair in zip(heavy, light) for term in pair]
        for wanted in (RIM - 1, RIM, RIM + 1):
            found, rest = [ONE], wanted - 1 - 1
            for term in terms:
                while rest > cost_of(term, table):
                    found.append(term)
                    rest -= 1 + cost_of(term, table)
            whole = balanced("add", found + [ONE] * (rest // 2))
            whole = ("neg", whole) if rest % 2 else whole
            program = Program(1, 1000, [*loops, many, Function("last", ["a", "b"], [whole])], [], [])
            if wanted > RIM:
                self.check(TooMany, {"what": "work", "most": RIM}, work_weights, program)
            else:
                self.assertEqual(dict(work_weights(program).table)["call last 0"], wanted)

    def test_a_loop_beyond_the_rim(self):
        loops = [Function("f0", ["a"], [A])]
        for index in range(1, 4):
            loops.append(Function(f"f{index}", ["a"], [(f"loop f{index - 1} 0", A, A)]))
        self.assertEqual(dict(work_weights(Program(1, 1000, loops[:3], [], [])).table)["loop f2 0"], 1003003001)
        self.check(TooMany, {"what": "work", "most": RIM}, work_weights, Program(1, 1000, loops, [], []))
        self.assertLess(dict(work_weights(Program(1, 990, loops, [], [])).table)["loop f3 0"], RIM)

    def test_errors(self):
        for bad in STRANGE + [5, F]:
            self.check_part(BadProgram, "program", work_weights, bad)


if __name__ == "__main__":
    unittest.main()
