"""Runs of programs, deed by deed."""

import random
import time
import unittest
from helpers import FALSE, STRANGE, TRUE, X, Y, Z
from helpers import Draw, Raises, as_lists, has_no_list, name, number, worth

from leastequal.errors import BadInput, BadNumber, BadProgram, Misfit
from leastequal.program import Function, Program
from leastequal.runs import Run, run

STEP = Function("step", ["x", "y"], [Y, ("add", X, ("at", Y))])
FIELDS = ("outcome", "names", "memory", "told", "turns")


def program_of(*deeds, inputs=(), least=1):
    return Program(least, 5, [STEP], inputs, deeds)


def shown(told):
    return tuple(getattr(told, field) for field in FIELDS)


class Short(Exception):
    """No fuel is left."""


class Slow:
    """A run as the document tells it, word by word."""

    def __init__(self, program, width, inputs, memory, replies, fuel):
        self.program, self.width, self.fuel, self.turns = program, width, fuel, 0
        self.many = 2 ** width
        self.words = {one: 0 for one in self.names_in(program.deeds)}
        self.words.update({one: word % self.many for one, word in zip(program.inputs, inputs)})
        self.memory = {key: word % self.many for key, word in memory.items() if key in range(self.many)}
        self.replies, self.told = list(replies), []
        try:
            self.do(program.deeds)
            self.outcome = "done"
        except Short:
            self.outcome = "short"

    def names_in(self, deeds):
        found = []
        for deed in deeds:
            found += [deed[1]] if deed[0] in ("set", "ask") else []
            for inner in deed[2:] if deed[0] in ("when", "while") else []:
                found += self.names_in(inner)
        return found

    def value(self, term):
        leaves = {name(one): self.words.get(one, 0) for one in "abcxyz"}
        return worth(term, self.width, leaves, self.memory, self.program.functions, self.program.rounds)

    def spend(self):
        if self.turns == self.fuel:
            raise Short()
        self.turns += 1

    def do(self, deeds):
        for deed in deeds:
            self.spend()
            if deed[0] == "set":
                self.words[deed[1]] = self.value(deed[2])
            elif deed[0] == "put":
                address, word = self.value(deed[1]), self.value(deed[2])
                self.memory[address] = word
            elif deed[0] == "tell":
                self.told.append(self.value(deed[1]))
            elif deed[0] == "ask":
                self.words[deed[1]] = self.replies.pop(0) % self.many if self.replies else 0
            elif deed[0] == "when":
                self.do(deed[2] if self.value(deed[1]) else deed[3])
            else:
                while self.value(deed[1]):
                    self.do(deed[2])
                    self.spend()

    def shown(self):
        memory = tuple(sorted((key, word) for key, word in self.memory.items() if word))
        return (self.outcome, tuple(sorted(self.words.items())), memory, tuple(self.told), self.turns)


def drawn_deeds(rng, draw, depth, many):
    return [drawn_deed(rng, draw, depth) for _ in range(rng.randint(0, many))]


def drawn_deed(rng, draw, depth):
    word = rng.choice(["set", "put", "tell", "ask", "when", "while"] if depth else ["set", "put", "tell", "ask"])
    if word in ("set", "ask"):
        return (word, rng.choice("abc"), *[draw.term("word", 7)] * (word == "set"))
    if word in ("put", "tell"):
        return (word, *[draw.term("word", 5) for _ in range(2 if word == "put" else 1)])
    inner = [drawn_deeds(rng, draw, depth - 1, 3) for _ in range(2 if word == "when" else 1)]
    return (word, draw.term("truth", 7), *inner)


def how_many(deeds):
    """How many deeds there are, those within others too."""
    return sum(1 + sum(how_many(inner) for inner in deed[2:] if deed[0] in ("when", "while")) for deed in deeds)


def drawn_programs(seed, many):
    rng = random.Random(seed)
    labels = ["add", "sub", "and", "at", "if", "eq", "lt", "less", "no", "mul"]
    draw = Draw(rng, [name("a"), name("b"), X, Y, number(1), number(-1), TRUE, FALSE], labels)
    for _ in range(many):
        deeds = drawn_deeds(rng, draw, 3, 5)
        while how_many(deeds) > 25:
            deeds = drawn_deeds(rng, draw, 3, 5)
        if rng.random() < 0.5:
            deeds.append(("tell", ("loop step 1", draw.term("word", 5), X, ("call step 0", draw.term("word", 3), Y))))
        program = Program(1, 4, [STEP], ["x", "a"], deeds)
        width = rng.choice([1, 2, 3, 8, 300])
        memory = {rng.randrange(-1, 9): rng.randrange(-20, 20) for _ in range(4)}
        replies = [rng.randrange(-9, 9) for _ in range(rng.randint(0, 4))]
        yield rng, program, width, [rng.randrange(-9, 99), rng.randrange(4)], memory, replies


class TestDeeds(Raises, unittest.TestCase):
    def test_set(self):
        whole = program_of(("set", "x", ("add", X, Y)), ("set", "z", X), inputs=["x"])
        self.assertEqual(shown(run(whole, 4, [19], {}, [], 9)), ("done", (("x", 3), ("z", 3)), (), (), 2))
        whole = program_of(("set", "y", X), ("set", "x", number(-1)), ("set", "x", ("sub", X, Y)))
        self.assertEqual(run(whole, 4, [], {}, [], 9).names, (("x", 15), ("y", 0)))

    def test_put(self):
        whole = program_of(("put", X, ("neg", X)), ("put", ("at", X), X), ("put", X, ("add", ("at", X), number(1))), inputs=["x"])
        self.assertEqual(run(whole, 4, [2], {}, [], 9).memory, ((2, 15), (14, 2)))
        whole = program_of(("put", number(-1), number(0)), ("put", number(0), number(1)))
        self.assertEqual(run(whole, 3, [], {7: 5, 3: 8, 2: -1}, [], 9).memory, ((0, 1), (2, 7)))
        whole = program_of(("put", ("at", number(0)), ("at", number(0))))
        self.assertEqual(run(whole, 3, [], {0: 5}, [], 9).memory, ((0, 5), (5, 5)))

    def test_tell_and_ask(self):
        whole = program_of(("ask", "x"), ("tell", X), ("ask", "x"), ("tell", X), ("ask", "y"), ("tell", ("add", X, Y)))
        for replies, told in (([], (0, 0, 0)), ([9], (1, 0, 0)), ([9, -1], (1, 7, 7)), ((9, -1, 5, 3), (1, 7, 4))):
            self.assertEqual(run(whole, 3, [], {}, replies, 9).told, told)
        self.assertEqual(run(whole, 3, [], {}, [2], 9).names, (("x", 0), ("y", 0)))
        self.assertEqual(run(program_of(("ask", "x"), inputs=["x"]), 3, [5], {}, [], 9).names, (("x", 0),))

    def test_when(self):
        whole = program_of(("when", ("eq", X, Y), [("tell", number(1))], [("tell", number(2)), ("tell", number(3))]), inputs=["x", "y"])
        self.assertEqual(shown(run(whole, 4, [3, 19], {}, [], 9)), ("done", (("x", 3), ("y", 3)), (), (1,), 2))
        self.assertEqual(shown(run(whole, 4, [3, 4], {}, [], 9)), ("done", (("x", 3), ("y", 4)), (), (2, 3), 3))
        self.assertEqual(run(program_of(("when", TRUE, [], [("ask", "z")])), 4, [], {}, [], 9).turns, 1)

    def test_while(self):
        whole = program_of(("while", ("lt", number(0), X), [("tell", X), ("set", "x", ("sub", X, number(1)))]), inputs=["x"])
        self.assertEqual(shown(run(whole, 4, [3], {}, [], 99)), ("done", (("x", 0),), (), (3, 2, 1), 10))
        self.assertEqual(shown(run(whole, 4, [0], {}, [], 99)), ("done", (("x", 0),), (), (), 1))

    def test_a_while_that_never_ends(self):
        for deeds in ([], [("set", "x", ("add", X, number(1)))]):
            for fuel in (0, 1, 9999, 10000):
                end = run(program_of(("while", TRUE, deeds)), 300, [], {}, [], fuel)
                self.assertEqual((end.outcome, end.turns), ("short", fuel))
        self.assertEqual(end.names, (("x", 5000),))

    def test_fuel(self):
        whole = program_of(("set", "x", number(5)), ("tell", X), ("when", FALSE, [], [("put", X, X)]))
        wanted = [
            ("short", (("x", 0),), (), (), 0), ("short", (("x", 5),), (), (), 1), ("short", (("x", 5),), (), (5,), 2),
            ("short", (("x", 5),), (), (5,), 3), ("done", (("x", 5),), ((5, 5),), (5,), 4), ("done", (("x", 5),), ((5, 5),), (5,), 4),
        ]
        for fuel, end in enumerate(wanted):
            self.assertEqual(shown(run(whole, 4, [], {}, [], fuel)), end)
        self.assertEqual(shown(run(program_of(), 1, [], {}, [], 0)), ("done", (), (), (), 0))
        self.assertEqual(run(program_of(("while", FALSE, [])), 1, [], {}, [], 0).outcome, "short")
        self.assertEqual(run(program_of(("while", FALSE, [])), 1, [], {}, [], 1).outcome, "done")

    def test_names(self):
        whole = program_of(("tell", Z), ("when", FALSE, [("ask", "b")], [("while", FALSE, [("set", "a1", X)])]), inputs=["y", "c"])
        self.assertEqual(run(whole, 4, [1, 2], {}, [], 9).names, (("a1", 0), ("b", 0), ("c", 2), ("y", 1)))
        self.assertEqual(run(whole, 4, [1, 2], {}, [], 9).told, (0,))

    def test_memory(self):
        memory = {5: 20, 1: -1, 0: 16, 16: 3, -1: 3, "x": 9, 10 ** 99: 1, 2: 7}
        for told in (memory, list(memory.items()), as_lists(list(memory.items()))):
            end = run(program_of(("tell", ("at", number(5)))), 4, [], told, [], 9)
            self.assertEqual((end.memory, end.told), (((1, 15), (2, 7), (5, 4)), (4,)))
        self.assertEqual(memory[5], 20)

    def test_loops_and_calls_see_what_was_put(self):
        loop = ("loop step 0", number(2), X, number(3))
        whole = program_of(("tell", loop), ("put", number(3), number(9)), ("tell", loop), ("put", number(3), number(1)), ("tell", loop), ("tell", loop))
        slow = Slow(whole, 8, [], {}, [], 20)
        self.assertEqual(shown(run(whole, 8, [], {}, [], 20)), slow.shown())
        self.assertEqual(len(set(slow.told)), 3)


class TestDrawn(unittest.TestCase):
    def test_deed_by_deed(self):
        for rng, program, width, inputs, memory, replies in drawn_programs(31, 250):
            fuel = rng.choice([0, 1, 2, 5, 40])
            wanted = Slow(program, width, inputs, memory, replies, fuel).shown()
            self.assertEqual(shown(run(program, width, inputs, memory, replies, fuel)), wanted)
            self.assertEqual(run(program, width, as_lists(inputs), list(memory.items()), tuple(replies), fuel), Run(*wanted))

    def test_fact_of_greater_fuel(self):
        for _, program, width, inputs, memory, replies in drawn_programs(32, 80):
            ends = [run(program, width, inputs, memory, replies, fuel) for fuel in (0, 1, 3, 7, 20, 60)]
            for end, fuel in zip(ends, (0, 1, 3, 7, 20, 60)):
                if end.outcome == "short":
                    self.assertEqual(end.turns, fuel)
                else:
                    self.assertTrue(all(end == other for other, more in zip(ends, (0, 1, 3, 7, 20, 60)) if more >= fuel))
            end = ends[-1]
            if end.outcome == "done":
                self.assertEqual(run(program, width, inputs, memory, replies, end.turns), end)
                if end.turns:
                    self.assertEqual(run(program, width, inputs, memory, replies, end.turns - 1).outcome, "short")

    def test_fact_of_a_while_as_a_when(self):
        seen = 0
        for _, program, width, inputs, memory, replies in drawn_programs(33, 150):
            deeds = [self.unrolled(deed) for deed in program.deeds]
            seen += deeds != list(program.deeds)
            other = Program(1, 4, [STEP], ["x", "a"], deeds)
            for fuel in (0, 1, 2, 5, 30):
                self.assertEqual(run(other, width, inputs, memory, replies, fuel), run(program, width, inputs, memory, replies, fuel))
        self.assertGreater(seen, 30)

    def unrolled(self, deed):
        return ("when", deed[1], [*deed[2], deed], []) if deed[0] == "while" else deed


class TestErrors(Raises, unittest.TestCase):
    def test_parameters_in_their_order(self):
        whole = program_of(("ask", "x"), inputs=["x"], least=3)
        for program in [*STRANGE, 3, "x", STEP, []]:
            self.check_part(BadProgram, "program", run, program, None, None, None, None, None)
        for width in [0, 301, -1, "4", *STRANGE]:
            self.check_part(BadNumber, "width", run, whole, width, None, None, None, None)
        for inputs in [*STRANGE, "x", 3, {}, {0: 1}, [], [1, 2], ["1"], [True], [None], [[1]], [1.0]]:
            self.check_part(BadInput, "inputs", run, whole, 1, inputs, None, None, None)
        for memory in [*STRANGE, "x", 3, [1], {1: True}, {None: 1}, [(1, 1), (1, 1)], {1: "x"}, [(1, 1, 1)], [([], 1)]]:
            self.check_part(BadInput, "memory", run, whole, 1, [1], memory, None, None)
        for replies in [*STRANGE, "x", 3, {}, {0: 1}, [1, True], ["1"], [None], [[1]]]:
            self.check_part(BadInput, "replies", run, whole, 1, [1], {}, replies, None)
        for fuel in [*STRANGE, -1, 10001, "1", [1], 10 ** 99]:
            self.check_part(BadNumber, "fuel", run, whole, 1, [1], {}, [], fuel)
        self.check_part(Misfit, "width", run, whole, 2, [1], {}, [], 5)
        self.assertEqual(run(whole, 3, [1], {}, [], 5).outcome, "done")
        self.assertEqual(run(fuel=10000, replies=[], memory={}, inputs=[1], width=3, program=whole).turns, 1)


class TestRun(unittest.TestCase):
    def test_any_values(self):
        for value in [*STRANGE, 3, "x", {"a": [1]}, [[1], (2, [3])]]:
            made = Run(value, [value], value, {}, [])
            fixed = ((1,), (2, (3,))) if isinstance(value, list) else value
            self.assertEqual(shown(made), (fixed, (fixed,), fixed, {}, ()))
            self.assertTrue(made == Run(value, (value,), value, {}, ()))
        made = Run(turns=5, told=4, memory=3, names=2, outcome=1)
        self.assertEqual(shown(made), (1, 2, 3, 4, 5))

    def test_equality(self):
        made = Run(1, [2], 3, 4, 5)
        for index in range(5):
            values = [1, [2], 3, 4, 5]
            values[index] = 9
            self.assertIs(made == Run(*values), False)
            self.assertIs(made != Run(*values), True)
        for other in (None, (1, (2,), 3, 4, 5), 1, "run"):
            self.assertIs(made == other, False)

    def test_a_list_that_changes_later(self):
        told = [1, [2]]
        made = Run("done", [], [], told, 0)
        told[1].append(3)
        self.assertEqual(made.told, (1, (2,)))

    def test_no_lists(self):
        end = run(program_of(("tell", X), ("put", number(1), number(1))), 3, [], {2: 2}, [], 9)
        self.assertTrue(all(has_no_list(value) for value in shown(end)))


class TestTime(unittest.TestCase):
    def test_many_turns(self):
        loop = ("loop step 1", number(5), X, Y)
        whole = program_of(("while", TRUE, [("set", "x", ("add", X, loop)), ("put", X, ("call step 1", X, X))]))
        begun = time.monotonic()
        run(whole, 64, [], {}, [], 10000)
        self.assertLess(time.monotonic() - begun, 5)

    def test_a_long_loop_often(self):
        sum_of = Function("sum", ["i", "s"], [("add", name("i"), number(1)), ("add", name("s"), ("mul", name("i"), name("i")))])
        whole = Program(1, 1000, [sum_of], [], [("while", TRUE, [("tell", ("loop sum 1", number(1000), number(0), number(0)))])])
        begun = time.monotonic()
        self.assertEqual(len(run(whole, 64, [], {}, [], 2000).told), 1000)
        self.assertLess(time.monotonic() - begun, 5)


if __name__ == "__main__":
    unittest.main()
