"""Runs of code, row by row."""

import random
import time
import unittest

from helpers import STRANGE, Raises, as_lists, has_no_list
from leastequal.code import Code
from leastequal.errors import BadCode, BadInput, BadNumber, Misfit
from leastequal.machine import run_code
from leastequal.runs import Run
from slow_machine import SlowMachine, drawn_code

FIELDS = ("outcome", "names", "memory", "told", "turns")
STEP = ("step", ["a", "n"], [[("name", 0, "a"), ("name", 1, "n"), ("add", 0, 0, 1)], [("name", 0, "n"), ("number", 1, 1), ("sub", 0, 0, 1)]])


def shown(told):
    return tuple(getattr(told, field) for field in FIELDS)


def told_by(*rows, width=8, names=(), values=(), functions=(), rounds=10, memory=(), replies=(), registers=3):
    """What the rows tell, which are followed by a row that tells the register 0."""
    code = Code(1, rounds, registers, names, functions, [*rows, ("tell", 0)])
    return run_code(code, width, values, memory, replies, 0).told[-1]


def list_of(*words):
    """Rows that begin a list and hand it these words."""
    return [("open",)] + [row for word in words for row in (("number", 0, word), ("hand", 0))]


class TestRuns(Raises, unittest.TestCase):
    def test_against_a_slow_machine(self):
        rng = random.Random(1)
        outcomes, told = [], 0
        for index in range(1500):
            code = drawn_code(rng)
            width = rng.choice([code.least, code.least, 8, 300])
            inputs = [rng.choice([0, 1, 5, -1, 2 ** 300]) for _ in code.inputs]
            memory = {rng.choice([0, 1, 2, 255, 2 ** 300, -1]): rng.choice([0, 1, 3, -2]) for _ in range(rng.randint(0, 4))}
            replies = [rng.randint(-5, 300) for _ in range(rng.randint(0, 3))]
            fuel = rng.choice([0, 1, 2, 5, 20])
            slow = SlowMachine(code, width, inputs, memory, replies, fuel)
            end = run_code(code, width, inputs, memory, replies, fuel)
            self.assertEqual(shown(end), slow.parts())
            outcomes.append(end.outcome)
            told += len(end.told)
            if end.outcome == "done":
                # Just as much fuel as is spent is enough; one less is not.
                self.assertEqual(run_code(code, width, inputs, memory, replies, end.turns), end)
                self.assertEqual(run_code(code, width, inputs, memory, replies, 10000), end)
                if end.turns > 0:
                    short = run_code(code, width, inputs, memory, replies, end.turns - 1)
                    self.assertEqual((short.outcome, short.turns), ("short", end.turns - 1))
        self.assertGreater(outcomes.count("done"), 500)
        self.assertGreater(outcomes.count("short"), 300)
        self.assertGreater(told, 500)

    def test_form(self):
        code = Code(1, 0, 3, ["x"], [], [("ask", "a"), ("number", 0, 5), ("put", 0, 0), ("tell", 0)])
        end = run_code(code, 8, [3], [(9, 7), (1, 0)], [4], 0)
        self.assertIsInstance(end, Run)
        self.assertEqual(shown(end), ("done", (("a", 4), ("x", 3)), ((5, 5), (9, 7)), (5,), 0))
        self.assertTrue(has_no_list(shown(end)))
        self.assertEqual(run_code(fuel=0, replies=(4,), memory={9: 7}, inputs=(259,), width=8, code=code), end)

    def test_names(self):
        code = Code(1, 0, 3, ["b", "c"], [], [("go", 3), ("keep", "z", 0), ("ask", "y"), ("name", 0, "other"), ("tell", 0), ("name", 0, "b"), ("keep", "c", 0)])
        self.assertEqual(run_code(code, 4, [18, 5], [], [], 0).names, (("b", 2), ("c", 2), ("y", 0), ("z", 0)))
        # A flag's truth for a name is no integer; a name of a name row alone is no name of the run.
        self.assertEqual(run_code(Code(1, 0, 3, [], [], [("name", 0, "a")]), 4, [], [], [], 0).names, ())

    def test_words_stay(self):
        self.assertEqual(told_by(("number", 1, 5), ("add", 0, 1, 1), ("add", 0, 0, 1)), 15)
        self.assertEqual(told_by(("number", 0, 5), ("store", 3, 0), ("number", 0, 1), ("load", 1, 3), ("load", 2, 3), ("add", 0, 1, 2)), 10)
        self.assertEqual(told_by(("load", 0, 999)), 0)
        self.assertEqual(told_by(("number", 0, 7), ("open",), ("hand", 0), ("add", 0, 0, 0)), 14)

    def test_truths(self):
        self.assertEqual([told_by(("true", 0)), told_by(("false", 0))], [1, 0])
        for label, one, two, wanted in (
            ("both", 2, 4, 1), ("both", 0, 4, 0), ("both", 2, 0, 0), ("either", 0, 4, 1), ("either", 6, 0, 1), ("either", 0, 0, 0), ("eq", 5, 5, 1), ("eq", 5, 4, 0), ("lt", 4, 5, 1), ("lt", 5, 5, 0), ("less", 255, 1, 1), ("less", 1, 255, 0),
        ):
            self.assertEqual(told_by(("number", 1, one), ("number", 2, two), (label, 0, 1, 2)), wanted, label)
        for word, wanted in ((0, 1), (1, 0), (7, 0), (256, 1)):
            self.assertEqual(told_by(("number", 1, word), ("no", 0, 1)), wanted)
            self.assertEqual(told_by(("number", 1, word), ("number", 0, 4), ("number", 2, 9), ("if", 0, 1, 0, 2)), 9 if wanted else 4)
        self.assertEqual(told_by(("number", 1, 5), ("number", 2, 5), ("eq", 0, 1, 2), ("add", 0, 0, 0)), 2)

    def test_widths(self):
        for width in (1, 2, 8, 300):
            self.assertEqual(told_by(("number", 0, -1), width=width), 2 ** width - 1)
            self.assertEqual(told_by(("number", 1, 2147483647), ("number", 2, 1), ("add", 0, 1, 2), width=width), 2 ** 31 % 2 ** width)
            self.assertEqual(told_by(("number", 0, 1), ("shl 31", 0, 0), ("shl 31", 0, 0), width=width), 2 ** 62 % 2 ** width)
            self.assertEqual(told_by(("number", 0, 1), ("flip", 0, 0), width=width), 2 ** width - 2)

    def test_lists(self):
        second = ("two", ["a", "b"], [[("name", 0, "b")], [("name", 0, "a"), ("name", 1, "b"), ("sub", 0, 0, 1)]])
        for words, wanted in (((), 0), ((5,), 5), ((5, 3), 2), ((5, 3, 9, 9), 2)):
            self.assertEqual(told_by(*list_of(*words), ("call two 1", 0), functions=[second]), wanted)
        # Without an open list a hand does nothing, and a call or a loop has an empty list.
        self.assertEqual(told_by(("number", 0, 7), ("hand", 0), ("call two 1", 0), functions=[second]), 0)
        self.assertEqual(told_by(("number", 0, 7), ("hand", 0), ("loop two 1", 0), functions=[second]), 0)
        self.assertEqual(told_by(*list_of(4), ("call two 1", 1), ("call two 1", 0), functions=[second]), 0)
        # The list that was opened last goes first; the other one stays open.
        rows = [*list_of(8, 1), *list_of(5, 3), ("call two 1", 0), ("hand", 0), ("call two 0", 0)]
        self.assertEqual(told_by(*rows, functions=[second]), 1)
        rows = [*list_of(8), *list_of(5, 3), ("call two 1", 0), ("hand", 0), ("call two 1", 0)]
        self.assertEqual(told_by(*rows, functions=[second]), 6)
        # Lists last over deeds.
        code = Code(1, 0, 3, [], [second], [*list_of(9), ("spend",), ("call two 1", 0), ("tell", 0)])
        self.assertEqual(run_code(code, 8, [], [], [], 1).told, (9,))

    def test_frames(self):
        # A block has registers, cells, names and lists of its own, and gives back its register 0 alone.
        look = ("look", ["a"], [[("load", 1, 0), ("name", 2, "x"), ("add", 0, 0, 1), ("add", 0, 0, 2), ("name", 1, "a"), ("add", 0, 0, 1)], [("number", 1, 9), ("store", 0, 1), ("open",)]])
        rows = [("number", 0, 3), ("store", 0, 0), ("keep", "x", 0), ("number", 1, 5), *list_of(7), ("call look 0", 2), ("add", 0, 2, 1)]
        self.assertEqual(told_by(*rows, functions=[look]), 12)
        rows = [("number", 0, 3), ("store", 0, 0), ("number", 1, 5), ("open",), ("call look 1", 2), ("load", 0, 0), ("add", 0, 0, 1), ("add", 0, 0, 2)]
        self.assertEqual(told_by(*rows, functions=[look]), 8)
        # A list that a block leaves open is open there alone.
        self.assertEqual(told_by(("call look 1", 0), *list_of(4)[1:], ("call look 0", 0), functions=[look]), 0)

    def test_loops(self):
        for count, wanted in ((0, 7), (1, 10), (2, 12), (3, 13), (10, -8), (11, -8), (200, -8)):
            self.assertEqual(told_by(*list_of(count, 7, 3), ("loop step 0", 0), functions=[STEP]), wanted % 256)
        self.assertEqual(told_by(*list_of(2, 7, 3), ("loop step 1", 0), functions=[STEP]), 1)
        self.assertEqual(told_by(*list_of(2, 7), ("loop step 0", 0), functions=[STEP]), 6)
        self.assertEqual(told_by(*list_of(2), ("loop step 1", 0), functions=[STEP]), 254)
        self.assertEqual(told_by(*list_of(1, 7, 3, 100, 100), ("loop step 0", 0), functions=[STEP]), 10)
        self.assertEqual(told_by(*list_of(5, 7, 3), ("loop step 0", 0), functions=[STEP], rounds=0), 7)
        self.assertEqual(told_by(*list_of(1000, 0, 1), ("loop step 1", 0), functions=[STEP], rounds=1000, width=16), (1 - 1000) % 65536)

    def test_memory(self):
        read = ("read", ["a"], [[("name", 0, "a"), ("at", 0, 0)]])
        self.assertEqual(told_by(("number", 1, 3), ("at", 0, 1), memory={3: 260}), 4)
        self.assertEqual(told_by(("number", 1, 3), ("put", 1, 1), ("number", 2, 1), *list_of(3), ("call read 0", 0), functions=[read]), 3)
        # Keys beyond the width are left aside, words are taken modulo; a word 0 is not told.
        code = Code(1, 0, 3, [], [], [("number", 0, 2), ("false", 1), ("put", 0, 1)])
        self.assertEqual(run_code(code, 2, [], {2: 3, 4: 1, -1: 1, 3: 6, 1: 8, "x": 5}, [], 0).memory, ((3, 2),))
        self.assertEqual(run_code(code, 3, [], [(4, 9)], [], 0).memory, ((4, 1),))

    def test_replies(self):
        code = Code(1, 0, 3, [], [], [row for index in range(3) for row in (("ask", "x"), ("name", 0, "x"), ("tell", 0))])
        for replies, told in (([], (0, 0, 0)), ([5], (5, 0, 0)), ([-1, 260], (255, 4, 0)), ([1, 2, 3, 4], (1, 2, 3))):
            self.assertEqual(run_code(code, 8, [], [], replies, 0).told, told)

    def test_leads(self):
        code = Code(1, 0, 3, ["n"], [], [
            ("spend",), ("name", 0, "n"), ("unless", 0, 7), ("tell", 0), ("number", 1, 1), ("sub", 0, 0, 1), ("go", 9), ("number", 0, 99), ("go", 11), ("keep", "n", 0), ("go", 0), ("tell", 0),
        ])
        end = run_code(code, 8, [3], [], [], 100)
        self.assertEqual(shown(end), ("done", (("n", 0),), (), (3, 2, 1, 99), 4))
        self.assertEqual(shown(run_code(code, 8, [3], [], [], 2)), ("short", (("n", 1),), (), (3, 2), 2))
        self.assertEqual(run_code(code, 8, [3], [], [], 4), end)
        self.assertEqual(run_code(code, 8, [3], [], [], 3).outcome, "short")
        self.assertEqual(shown(run_code(code, 8, [3], [], [], 0)), ("short", (("n", 3),), (), (), 0))
        self.assertEqual(run_code(Code(1, 0, 3, [], [], [("go", 2), ("spend",)]), 1, [], [], [], 0).outcome, "done")
        self.assertEqual(run_code(Code(1, 0, 3, [], [], [("true", 0), ("unless", 0, 3), ("spend",)]), 1, [], [], [], 0).outcome, "short")
        self.assertEqual(run_code(Code(1, 0, 3, [], [], [("unless", 0, 2), ("spend",)]), 1, [], [], [], 0).outcome, "done")
        self.assertEqual(shown(run_code(Code(1, 0, 3, [], [], []), 1, [], [], [], 0)), ("done", (), (), (), 0))

    def test_nothing_is_changed(self):
        code = Code(1, 0, 3, ["x"], [], [("spend",), ("number", 0, 1), ("put", 0, 0), ("keep", "x", 0), ("ask", "y")])
        copy = Code.read(str(code))
        memory, inputs, replies = {1: 5}, [7], [8]
        self.assertEqual(run_code(code, 8, inputs, memory, replies, 9), run_code(code, 8, inputs, memory, replies, 9))
        self.assertEqual((memory, inputs, replies, code == copy), ({1: 5}, [7], [8], True))


class TestErrors(Raises, unittest.TestCase):
    def test_errors(self):
        code = Code(3, 0, 3, ["x", "y"], [], [])
        for bad in [*STRANGE, 5, str(code), (3, 0, 3, ["x"], [], [])]:
            self.check_part(BadCode, "code", run_code, bad, 0, None, None, None, None)
        for bad in [*STRANGE, 0, 301, -1, "8"]:
            self.check_part(BadNumber, "width", run_code, code, bad, None, None, None, None)
        for bad in [*STRANGE, 5, [], [1], [1, 2, 3], [1, True], [1, "2"], [None, 1], {0: 1, 1: 2}, "12"]:
            self.check_part(BadInput, "inputs", run_code, code, 1, bad, None, None, None)
        for bad in [*STRANGE, 5, [5], [(1, 2, 3)], [(1, 2), (1, 2)], {1: True}, {1: "2"}, [(None, 1)], [((1,), 1)]]:
            self.check_part(BadInput, "memory", run_code, code, 1, [1, 2], bad, None, None)
        for bad in [*STRANGE, 5, [True], ["1"], [None], {1: 2}, "1"]:
            self.check_part(BadInput, "replies", run_code, code, 1, [1, 2], [], bad, None)
        for bad in [*STRANGE, -1, 10001, "1", [1]]:
            self.check_part(BadNumber, "fuel", run_code, code, 1, [1, 2], [], [], bad)
        for width in (1, 2):
            self.check_part(Misfit, "width", run_code, code, width, [1, 2], [], [], 0)
        for width, fuel in ((3, 0), (300, 10000)):
            self.assertEqual(run_code(code, width, as_lists((1, 2)), [], [], fuel).outcome, "done")


class TestTime(unittest.TestCase):
    def test_many_rows_in_a_short_time(self):
        started = time.time()
        # About 100,000 rows: loops of a thousand rounds, and of blocks without rows.
        rows = [row for _ in range(15) for row in (*list_of(1000, 5, 1000), ("loop step 0", 0))]
        run_code(Code(1, 1000, 3, [], [STEP], rows), 300, [], [], [], 0)
        empty = ("empty", list("abcdef"), [[]] * 6)
        rows = [("spend",), *list_of(1000, 1, 1), ("loop empty 0", 0), ("go", 0)]
        self.assertEqual(run_code(Code(1, 1000, 16, [], [empty], rows), 16, [], [], [], 10000).turns, 10000)
        self.assertEqual(run_code(Code(1, 0, 3, [], [], [("spend",), ("name", 0, "x"), ("go", 0)]), 300, [], [], [], 10000).outcome, "short")
        self.assertLess(time.time() - started, 10)


if __name__ == "__main__":
    unittest.main()
