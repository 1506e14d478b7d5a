"""Values of terms, and results of functions."""

import random
import time
import unittest
from helpers import FALSE, P, Q, STRANGE, TRUE, TRUTH_LABELS, WORD_LABELS, X, Y, Z
from helpers import Draw, Raises, as_lists, function_worths, name, number, worth

from leastequal.errors import BadInput, BadNumber, BadProgram, BadTerm, Misfit, NoFunction, NoName
from leastequal.meaning import results, value
from leastequal.program import Function, Program

STEP = Function("step", ["x", "y"], [Y, ("add", X, Y)])
ONE = Function("one", [], [number(1), number(-1)])
UP = Function("up", ["x"], [("add", X, ("call one 0",))])
READ = Function("read", ["x", "y"], [("at", ("loop up 0", Y, X)), ("add", ("call step 0", X, Y), ("at", X))])
WHOLE = Program(2, 10, [STEP, ONE, UP, READ], ["x"], [])
EMPTY = Program(1, 0, [], [], [])


class TestValue(Raises, unittest.TestCase):
    def test_leaves(self):
        self.assertEqual([value(EMPTY, number(n), 4, {}, {}) for n in (5, 16, -1, -2147483647)], [5, 0, 15, 1])
        self.assertEqual(value(EMPTY, number(-2147483647), 300, {}, {}), 2 ** 300 - 2147483647)
        self.assertIs(value(EMPTY, TRUE, 4, {}, {}), True)
        self.assertIs(value(EMPTY, FALSE, 4, {}, {}), False)
        self.assertEqual(value(EMPTY, X, 4, {"x": 19}, {}), 3)
        self.assertEqual(value(EMPTY, X, 300, {"x": -10 ** 99}, {}), -10 ** 99 % 2 ** 300)
        self.assertIs(value(EMPTY, P, 4, {"p": True}, {}), True)

    def test_a_name_and_a_flag_of_one_spelling(self):
        self.check(NoName, {"value": "x"}, value, EMPTY, X, 4, {"x": True}, {})
        self.check(NoName, {"value": "p"}, value, EMPTY, P, 4, {"p": 1}, {})
        both = ("if", ("flag", "x"), X, number(2))
        for told in (True, 1):
            self.check(NoName, {"value": "x"}, value, EMPTY, both, 4, {"x": told}, {})
        self.check_part(BadInput, "names", value, EMPTY, both, 4, [("x", True), ("x", 1)], {})

    def test_keys_that_nothing_asks_for(self):
        told = {"y": True, "x": 3, 7: 8, -1: False, "true": 3, "no name": 4, "": 1}
        self.assertEqual(value(EMPTY, X, 4, told, {}), 3)
        self.assertEqual(value(EMPTY, X, 4, list(told.items()), []), 3)

    def test_memory(self):
        read = ("at", X)
        memory = {2: 9, 3: 35, "x": 5, -1: 7, 16: 11, 10 ** 99: 1, 0: -1}
        wanted = {0: 15, 1: 0, 2: 9, 3: 3, 15: 0}
        for address, word in wanted.items():
            for told in (memory, list(memory.items()), as_lists(list(memory.items())), tuple(memory.items())):
                self.assertEqual(value(EMPTY, read, 4, {"x": address}, told), word)
        self.assertEqual(value(EMPTY, ("at", ("at", number(3))), 4, {}, {3: 2, 2: 5}), 5)
        self.assertEqual(value(EMPTY, ("at", number(-1)), 300, {}, [(2 ** 300 - 1, 6)]), 6)

    def test_drawn_terms(self):
        rng = random.Random(21)
        draw = Draw(rng, [X, Y, P, Q, ("flag", "x1"), TRUE, FALSE, number(3), number(-2147483647)], [*WORD_LABELS, *TRUTH_LABELS])
        for index in range(300):
            term = draw.term(("word", "truth")[index % 2], rng.randint(1, 40))
            width = rng.choice([1, 2, 3, 8, 33, 300])
            words = {one: rng.choice([0, 1, -1, rng.randrange(-2 ** 310, 2 ** 310)]) for one in "xy"}
            flags = {one: rng.random() < 0.5 for one in ("p", "q", "x1")}
            memory = {rng.randrange(2 ** min(width, 4)): rng.randrange(2 ** width) for _ in range(4)}
            told = {**{name(one): word % 2 ** width for one, word in words.items()}, **{("flag", one): truth for one, truth in flags.items()}}
            found = value(EMPTY, as_lists(term), width, {**flags, **words}, memory)
            wanted = worth(term, width, told, memory)
            self.assertEqual(found, wanted, term)
            self.assertIs(type(found), bool if index % 2 else int)

    def test_drawn_programs(self):
        rng = random.Random(22)
        for _ in range(60):
            functions = self.drawn_functions(rng)
            rounds, width = rng.choice([0, 1, 3, 7]), rng.choice([1, 2, 5, 40])
            program = Program(1, rounds, functions, [], [])
            calls = [f"{word} {function.name} {index}" for function in functions for word in ("call", "loop") for index in (0, 1)]
            memory = {rng.randrange(2 ** min(width, 3)): rng.randrange(2 ** width) for _ in range(3)}
            for label in calls:
                words = [rng.choice([0, 1, 2, 5, 2 ** width - 1, rng.randrange(2 ** width)]) for _ in range(3)]
                term = (label, *[name(one) for one in "xyz"[:2 if label.startswith("call") else 3]])
                told = {name(one): word % 2 ** width for one, word in zip("xyz", words)}
                wanted = worth(term, width, told, memory, functions, rounds)
                self.assertEqual(value(program, term, width, dict(zip("xyz", words)), memory), wanted)
            for function in functions:
                wanted = function_worths(function.name, [word % 2 ** width for word in words[:2]], width, memory, functions, rounds)
                self.assertEqual(results(program, function.name, width, words[:2], memory), tuple(wanted))

    def drawn_functions(self, rng):
        functions, calls = [], []
        for word in ("f", "g", "h"):
            draw = Draw(rng, [X, Y, number(1), number(-3)], ["add", "sub", "xor", "mul", "at", "if", "eq", "lt", "neg"])
            one, other = draw.term("word", 7), draw.term("word", 7)
            for label in calls:
                one = (label, one, X) if label.startswith("call") else (label, rng.choice([X, number(2), number(-1)]), other, one)
            functions.append(Function(word, ["x", "y"], [one, other]))
            calls = [f"call {word} 1", f"loop {word} 0"]
        return functions

    def test_counts_of_loops(self):
        def up(count, width, rounds):
            program = Program(1, rounds, [ONE, UP], [], [])
            return value(program, ("loop up 0", number(count), number(0)), width, {}, {})

        self.assertEqual([up(count, 8, 10) for count in (0, 1, 9, 10, 11, 255, -1)], [0, 1, 9, 10, 10, 10, 10])
        self.assertEqual([up(count, 2, 10) for count in (3, 4, 5, -1)], [3, 0, 1, 3])
        self.assertEqual([up(count, 300, 1000) % 2 ** 300 for count in (1000, 1001, 2147483647)], [1000] * 3)
        self.assertEqual([up(count, 8, 0) for count in (0, 1, 5)], [0, 0, 0])

    def test_numbers_of_results(self):
        turn = Function("turn", ["x", "y"], [Y, X])
        program = Program(1, 5, [turn], [], [])
        found = [value(program, (f"loop turn {j}", number(n), number(6), number(7)), 4, {}, {}) for n in (0, 1, 2, 5, 6) for j in (0, 1)]
        self.assertEqual(found, [6, 7, 7, 6, 6, 7, 7, 6, 7, 6])
        self.assertEqual([value(program, (f"call turn {j}", number(6), number(7)), 4, {}, {}) for j in (0, 1)], [7, 6])

    def test_calls_read_the_same_memory(self):
        term = ("call read 0", number(1), number(2))
        self.assertEqual(value(WHOLE, term, 4, {}, {3: 9}), 9)
        self.assertEqual(value(WHOLE, ("loop read 1", number(1), number(5), number(6)), 4, {}, {5: 4}), 10)


class TestErrors(Raises, unittest.TestCase):
    def test_parameters_in_their_order(self):
        right = [WHOLE, X, 4, {"x": 1}, {}]
        wrong = [(BadProgram, "program"), (BadTerm, "term"), (BadNumber, "width"), (BadInput, "names"), (BadInput, "memory")]
        for index, (error, part) in enumerate(wrong):
            for value_passed in [*STRANGE, "no", 301, -1][:9 if index == 2 else None]:
                arguments = [*right[:index], value_passed, *["no"] * (4 - index)]
                self.check_part(error, part, value, *arguments)
        for width in (0, 301, "4", True):
            self.check_part(BadNumber, "width", value, WHOLE, ("call gone 0",), width, None, None)

    def test_names(self):
        wrong = [{"x": "1"}, {"x": 1.0}, {"x": None}, {"x": [1]}, {"x": 1, "y": ()}, {None: 1}, {True: 1}, {1.5: 1}, {("x",): 1},
                 [("x", 1), ("x", 1)], [(1, 1), (1, 2)], [("x", 1, 2)], [("x",)], ["x1"], "x", 5, {"x"}, [["x"], 1], [(["x"], 1)]]
        for names in wrong:
            self.check_part(BadInput, "names", value, WHOLE, X, 1, names, None)

    def test_memories(self):
        wrong = [{1: "1"}, {1: True}, {1: None}, {"y": False}, {None: 1}, {False: 1}, {b"x": 1}, {(1,): 1}, [(1, 1), (1, 1)],
                 [(1, 2, 3)], [1, 2], "x", 5, {1}, [([1], 1)], [("x", 1), ("x", 2)]]
        for memory in wrong:
            self.check_part(BadInput, "memory", value, WHOLE, X, 1, {}, memory)
            self.check_part(BadInput, "memory", results, WHOLE, "up", 1, [1], memory)

    def test_what_does_not_fit(self):
        gone, wrong = ("call gone 0",), ("call up 3", X)
        self.check_part(Misfit, "width", value, WHOLE, gone, 1, {}, {})
        self.check(NoFunction, {"value": "gone"}, value, WHOLE, ("add", wrong, ("neg", gone)), 2, {}, {})
        self.check(NoFunction, {"value": "b"}, value, WHOLE, ("call b 0", ("call a 0",)), 2, {}, {})
        self.check_part(Misfit, "call", value, WHOLE, ("add", Y, wrong), 2, {}, {})
        for term in (("call up 0",), ("call up 0", X, Y), ("loop up 0", X, Y, Z), ("loop one 0", X, Y), ("call one 2",), ("loop up 1", X, Y)):
            self.check_part(Misfit, "call", value, WHOLE, term, 2, {"x": 1, "y": 1, "z": 1}, {})

    def test_the_least_missing_one(self):
        term = ("if", ("both", ("flag", "b"), ("flag", "x")), ("add", name("c"), name("a")), name("x"))
        self.check(NoName, {"value": "a"}, value, WHOLE, term, 2, {}, {})
        self.check(NoName, {"value": "a"}, value, WHOLE, term, 2, {"a": True, "b": False}, {})
        self.check(NoName, {"value": "b"}, value, WHOLE, term, 2, {"a": 1, "b": 0}, {})
        self.check(NoName, {"value": "c"}, value, WHOLE, term, 2, {"a": 1, "b": True}, {})
        self.check(NoName, {"value": "x"}, value, WHOLE, term, 2, {"a": 1, "b": True, "c": 1, "x": 1}, {})
        self.check(NoName, {"value": "a10"}, value, WHOLE, ("add", name("a9"), name("a10")), 2, {}, {})

    def test_results(self):
        self.assertEqual(results(WHOLE, "one", 4, (), ()), (1, 15))
        self.assertEqual(results(memory={1: 3}, words=(1, 2), width=4, name="read", program=WHOLE), (0, 5))
        for program in [*STRANGE, "no", STEP]:
            self.check_part(BadProgram, "program", results, program, None, None, None, None)
        for called in [*STRANGE, "gone", "", 3, b"up", "UP"]:
            self.check(NoFunction, {"value": called}, results, WHOLE, called, None, None, None)
        listed = ["up"]
        with self.assertRaises(NoFunction) as caught:
            results(WHOLE, listed, 0, None, None)
        self.assertIs(caught.exception.value, listed)
        for width in [0, 301, "4", *STRANGE]:
            self.check_part(BadNumber, "width", results, WHOLE, "up", width, None, None)
        for words in [*STRANGE, "x", {}, {0: 1}, [], [1, 2], ["1"], [True], [None], 1]:
            self.check_part(BadInput, "words", results, WHOLE, "up", 1, words, None)
        self.check_part(Misfit, "width", results, WHOLE, "up", 1, [1], {})

    def test_what_is_passed_is_not_changed(self):
        names, memory = {"x": 99}, {1: 99, "y": 3}
        value(WHOLE, ("at", X), 4, names, memory)
        results(WHOLE, "read", 4, [99, 1], memory)
        self.assertEqual((names, memory), ({"x": 99}, {1: 99, "y": 3}))


class TestTime(unittest.TestCase):
    def test_a_work_of_20000(self):
        term = X
        for _ in range(9):
            term = ("add", term, term)
        sum_of = Function("sum", ["x"], [("add", ("mul", X, X), number(1))])
        program = Program(1, 1000, [sum_of], [], [])
        begun = time.monotonic()
        value(program, ("loop sum 0", number(1000), term), 300, {"x": 3}, {})
        self.assertLess(time.monotonic() - begun, 2)


if __name__ == "__main__":
    unittest.main()
