"""Code that is made of programs, and whether code follows a program."""

import random
import time
import unittest

from helpers import STRANGE, X, Y, DrawCalls, Raises, name, number
from leastequal.check_code import cells_of, follows, need_of_program, registers_of
from leastequal.code import Code
from leastequal.errors import BadCode, BadNumber, BadProgram
from leastequal.machine import run_code
from leastequal.made import made
from leastequal.program import Function, Program, terms_of
from leastequal.registers import need_of
from leastequal.runs import run
from leastequal.stores import fewest_stores, rows_for, rows_with_cut
from slow_machine import DEEDS, SlowMachine
from slow_registers import held_behind, slow_need
from slow_rules import balanced

A, B, N = name("a"), name("b"), name("n")
ONE = number(1)
LABELS = ["add", "sub", "mul", "and", "xor", "neg", "flip", "shl 2", "at", "if", "eq", "lt", "less", "both", "no"]
NAMES = ["a", "b", "x", "y"]
EIGHT = balanced("add", [X, Y, X, A, B, Y, X, A])


def drawn_program(rng, size=12):
    """A program with functions, loops, and deeds within deeds."""
    functions = []
    for word in ["f", "g", "h"][:rng.randint(0, 3)]:
        parameters = NAMES[:rng.randint(0, 3)]
        many = len(parameters) if parameters and rng.random() < 0.7 else rng.randint(1, 2)
        draw = DrawCalls(rng, [*[name(one) for one in parameters], ONE, number(3), ("true",)], LABELS, functions)
        functions.append(Function(word, parameters, [draw.term("word", rng.randint(1, size)) for _ in range(many)]))
    draw = DrawCalls(rng, [A, B, X, Y, ONE, number(-2), ("false",)], LABELS, functions)
    deeds = [drawn_deed(rng, draw, size, 1) for _ in range(rng.randint(0, 6))]
    return Program(rng.randint(1, 3), rng.randint(0, 4), functions, NAMES[:rng.randint(0, 3)], deeds)


def drawn_deed(rng, draw, size, depth):
    kinds = ["set", "put", "tell", "ask"] + (["when", "while"] if depth < 4 else [])
    kind = rng.choice(kinds)

    def term(wanted="word"):
        return draw.term(wanted, rng.randint(1, size))
    if kind == "set":
        return ("set", rng.choice(NAMES), term())
    if kind == "put":
        return ("put", term(), term())
    if kind == "tell":
        return ("tell", term())
    if kind == "ask":
        return ("ask", rng.choice(NAMES))
    inner = [[drawn_deed(rng, draw, size, depth + 1) for _ in range(rng.randint(0, 2))] for _ in range(2)]
    return ("when", term("truth"), *inner) if kind == "when" else ("while", term("truth"), inner[0])


def slow_follows(program, code):
    """Whether code follows a program, by the words of the document."""
    if (program.least, program.rounds, program.inputs) != (code.least, code.rounds, code.inputs):
        return False
    if [(one.name, one.parameters, len(one.results)) for one in program.functions] != [(one[0], one[1], len(one[2])) for one in code.functions]:
        return False
    for function, (_, _, blocks) in zip(program.functions, code.functions):
        for result, block in zip(function.results, blocks):
            if (held_behind(block) or {}).get(0) != result:
                return False
    return slow_deeds(program.deeds, code.rows, 0) == len(code.rows)


def slow_deeds(deeds, rows, at):
    """The number of the row behind rows that follow deeds, None if they do not."""
    for deed in deeds:
        at = None if at is None else slow_deed(deed, rows, at)
    return at


def slow_deed(deed, rows, at):
    first = at
    if rows[at:at + 1] != (("spend",),):
        return None
    at += 1
    if deed[0] == "ask":
        return at + 1 if rows[at:at + 1] == (deed,) else None
    begin = at
    while at < len(rows) and rows[at][0] not in DEEDS:
        at += 1
    held = held_behind(rows[begin:at])
    if held is None or at == len(rows):
        return None
    row = rows[at]
    at += 1
    if deed[0] == "set":
        return at if row[:2] == ("keep", deed[1]) and held.get(row[2]) == deed[2] else None
    if deed[0] == "tell":
        return at if row[0] == "tell" and held.get(row[1]) == deed[1] else None
    if deed[0] == "put":
        fit = row[0] == "put" and row[1] != row[2] and held.get(row[1]) == deed[1] and held.get(row[2]) == deed[2]
        return at if fit else None
    if row[0] != "unless" or held.get(row[1]) != deed[1]:
        return None
    at = slow_deeds(deed[2], rows, at)
    if at is None or at == len(rows) or rows[at][0] != "go":
        return None
    lead = rows[at][1]
    at += 1
    if row[2] != at:
        return None
    if deed[0] == "while":
        return at if lead == first else None
    at = slow_deeds(deed[3], rows, at)
    return at if lead == at else None


def stores_of_deeds(program, rows):
    """By deed with terms, in order: the cells that its rows store into."""
    found = []
    for row in rows:
        if row[0] == "spend":
            found.append([])
        elif row[0] == "store":
            found[-1].append(row[1])
    return found


def terms_by_spend(deeds):
    """By deed, in order: the term that is worked out, None for ask; an address and its term are the parts of add."""
    found = []
    for deed in deeds:
        if deed[0] == "ask":
            found.append(None)
        elif deed[0] == "put":
            found.append(("add", *deed[1:]))
        else:
            found.append(deed[2] if deed[0] == "set" else deed[1])
        for inner in deed[2:] if deed[0] in ("when", "while") else []:
            found += terms_by_spend(inner)
    return found


def all_cells(rows):
    return [row[1] for row in rows if row[0] == "store"]


class TestMade(Raises, unittest.TestCase):
    def look(self, program, many):
        code = made(program, many)
        self.assertEqual((code.registers, follows(program, code), slow_follows(program, code)), (many, True, True))
        need = need_of_program(program)
        self.assertLessEqual(registers_of(code), need)
        for function, (_, _, blocks) in zip(program.functions, code.functions):
            for result, block in zip(function.results, blocks):
                stores = 0 if need_of(result) <= many else fewest_stores(result, many)
                self.assertEqual(sorted(all_cells(block)), list(range(stores)))
        for term, cells in zip(terms_by_spend(program.deeds), stores_of_deeds(program, code.rows), strict=True):
            stores = 0 if term is None or slow_need(term) <= many else fewest_stores(term, many)
            self.assertEqual(sorted(cells), list(range(stores)))
            self.assertTrue(stores > 0 or term is None or slow_need(term) <= many)
        return code

    def test_drawn_programs(self):
        rng = random.Random(1)
        stored = 0
        for index in range(120):
            program = drawn_program(rng, rng.choice([6, 14, 40]))
            for many in (3, rng.randint(4, 16)):
                stored += cells_of(self.look(program, many)) > 0
        self.assertGreater(stored, 20)

    def test_it_runs_alike(self):
        rng = random.Random(2)
        outcomes = []
        for index in range(250):
            program = drawn_program(rng)
            code = made(program, rng.choice([3, 3, 4, 16]))
            for _ in range(3):
                width = rng.choice([program.least, 8, 300])
                inputs = [rng.randint(-3, 9) for _ in program.inputs]
                memory = {rng.randint(0, 5): rng.randint(0, 9) for _ in range(3)}
                replies = [rng.randint(0, 9) for _ in range(rng.randint(0, 3))]
                fuel = rng.choice([0, 1, 3, 8, 30])
                end = run(program, width, inputs, memory, replies, fuel)
                self.assertEqual(run_code(code, width, inputs, memory, replies, fuel), end)
                outcomes.append(end.outcome)
        self.assertGreater(min(outcomes.count("done"), outcomes.count("short")), 100)

    def test_each_deed(self):
        program = Program(1, 0, [], [], [("when", ("eq", X, Y), [("ask", "x")], [("tell", X), ("ask", "y")]), ("while", ("lt", X, Y), [("set", "x", ("neg", X))]), ("put", X, ("add", X, Y))])
        code = self.look(program, 3)
        labels = [row[0] for row in code.rows]
        self.assertEqual(labels, [
            "spend", "name", "name", "eq", "unless", "spend", "ask", "go", "spend", "name", "tell", "spend", "ask",
            "spend", "name", "name", "lt", "unless", "spend", "name", "neg", "keep", "go", "spend", "name", "name", "add", "name", "put",
        ])
        self.assertEqual([code.rows[index][-1] for index in (4, 7, 17, 22)], [8, 13, 23, 13])

    def test_empty_lists_of_deeds(self):
        for deeds in ([], [("when", ("true",), [], [])], [("while", ("false",), [])], [("when", ("true",), [], [("ask", "x")])], [("when", ("true",), [("while", ("false",), [])], [])], [("ask", "a")]):
            self.look(Program(1, 0, [], [], deeds), 3)
        code = made(Program(1, 0, [], [], [("when", ("true",), [], [])]), 3)
        self.assertEqual(code.rows, (("spend",), ("true", 0), ("unless", 0, 4), ("go", 4)))
        code = made(Program(1, 0, [], [], [("while", ("true",), [])]), 3)
        self.assertEqual(code.rows, (("spend",), ("true", 0), ("unless", 0, 4), ("go", 0)))

    def test_addresses_and_terms_together(self):
        three = balanced("add", [X, Y, A, B])
        self.assertEqual((need_of(three), need_of(("add", three, three))), (3, 4))
        program = Program(1, 0, [], [], [("put", three, three)])
        self.assertEqual([len(all_cells(self.look(program, many).rows)) for many in (3, 4, 5)], [1, 0, 0])
        self.assertEqual((need_of_program(program), registers_of(made(program, 16)), registers_of(made(program, 3))), (4, 4, 3))
        both = Program(1, 0, [], [], [("put", X, three)])
        self.assertEqual((need_of_program(both), cells_of(self.look(both, 3))), (3, 0))

    def test_great_programs_in_a_short_time(self):
        started = time.time()
        term = balanced("add", [X] * 1000)
        deep = X
        for index in range(26):
            deep = ("add", deep, balanced("mul", [X, Y] * 4)) if index < 22 else ("neg", deep)
        program = Program(1, 3, [Function("f", ["x"], [("neg", X)])], [], [("put", term, term)] * 20 + [("set", "x", deep)] * 20)
        for many in (3, 16):
            self.assertTrue(follows(program, made(program, many)))
        self.assertLess(max(all_cells(made(program, 3).rows)), 1000)
        self.assertLess(time.time() - started, 20)

    def test_most_cells(self):
        # Even the greatest terms need no cell above 999.
        wide, broad = X, X
        for _ in range(9):
            wide = ("if", ("true",), wide, wide)
        for _ in range(4):
            broad = ("if", ("eq", broad, broad), broad, broad)
        for term in (wide, broad, balanced("add", [("if", ("true",), X, Y)] * 400)):
            program = Program(1, 0, [], [], [("put", term, term)])
            code = made(program, 3)
            self.assertTrue(follows(program, code))
            self.assertGreater(cells_of(code), 100)

    def test_errors(self):
        program = Program(1, 0, [], [], [("tell", EIGHT)])
        for bad in [*STRANGE, 5, "program 1 0"]:
            self.check_part(BadProgram, "program", made, bad, bad)
        for bad in [*STRANGE, 2, 17, 0, "3", [3]]:
            self.check_part(BadNumber, "many", made, program, bad)
            self.check_part(BadNumber, "many", made, Program(1, 0, [], [], []), bad)
        self.assertEqual((made(many=3, program=program).registers, made(program, 16).registers), (3, 16))
        self.assertEqual(made(program, 3), made(program, 3))


class TestFollows(Raises, unittest.TestCase):
    def setUp(self):
        step = Function("step", ["a", "n"], [("add", A, N), ("sub", N, ONE)])
        one = Function("one", [], [ONE])
        deeds = [
            ("set", "y", ("loop step 0", X, ("call one 0",), X)), ("when", ("eq", X, Y), [("tell", X)], [("ask", "x")]), ("while", ("lt", X, Y), [("set", "x", ("add", X, ONE))]), ("put", X, ("neg", Y)),
        ]
        self.program = Program(2, 10, [step, one], ["x"], deeds)
        self.code = made(self.program, 4)

    def with_parts(self, **bent):
        parts = {field: getattr(self.code, field) for field in ("least", "rounds", "registers", "inputs", "functions", "rows")}
        return Code(**{**parts, **bent})

    def test_heads(self):
        self.assertIs(follows(self.program, self.code), True)
        self.assertIs(follows(self.program, self.with_parts(registers=16)), True)
        step, one = self.code.functions
        renamed = (step[0], ("n", "a"), tuple(tuple(("name", row[1], {"a": "n", "n": "a"}[row[2]]) if row[0] == "name" else row for row in block) for block in step[2]))
        for bent in (
            {"least": 1}, {"least": 3}, {"rounds": 9}, {"inputs": ()}, {"inputs": ("y",)}, {"inputs": ("x", "y")}, {"functions": (one, step)}, {"functions": (step, one, ("new", (), ((("true", 0),),)))},
            {"functions": (renamed, one)}, {"functions": ((step[0], step[1], step[2][::-1]), one)}, {"functions": ((step[0], step[1], (step[2][0], step[2][0])), one)}, {"functions": (step, ("one", ("q",), one[2]))},
            {"functions": (step, ("one", (), (one[2][0], one[2][0])))}, {"functions": (step, ("one", (), ((),)))}, {"functions": (step, ("one", (), ((("number", 0, 2),),)))}, {"functions": (step, ("one", (), ((("number", 1, 1),),)))},
        ):
            self.assertIs(follows(self.program, self.with_parts(**bent)), False, bent)
        rows = tuple(("call uno 0" if row[0] == "call one 0" else row[0], *row[1:]) for row in self.code.rows)
        self.assertIs(follows(self.program, self.with_parts(functions=(step, ("uno", (), one[2])), rows=rows)), False)
        self.assertIs(follows(self.program, Code(2, 10, 3, ["x"], [], [])), False)
        self.assertIs(follows(Program(1, 0, [], [], []), Code(1, 0, 3, [], [], [])), True)
        self.assertIs(follows(Program(1, 0, [], [], []), Code(1, 0, 3, [], [], [("spend",)])), False)
        self.assertIs(follows(Program(1, 0, [], [], []), Code(1, 0, 3, [], [], [("true", 0)])), False)
        self.assertIs(follows(Program(1, 0, [], [], [("ask", "x")]), Code(1, 0, 3, [], [], [])), False)

    def test_functions_that_nothing_calls(self):
        program = Program(1, 0, [Function("one", [], [ONE])], [], [])
        for word, wanted in (("one", True), ("uno", False)):
            code = Code(1, 0, 3, [], [(word, [], [[("number", 0, 1)]])], [])
            self.assertIs(follows(program, code), wanted)
            self.assertIs(slow_follows(program, code), wanted)

    def test_the_last_row_is_missing(self):
        for deed in (("set", "x", X), ("tell", X), ("put", X, Y), ("when", ("true",), [], []), ("while", ("true",), []), ("ask", "x")):
            program = Program(1, 0, [], [], [deed])
            rows = made(program, 3).rows
            for many in range(len(rows)):
                # What leads behind the rows that are left leads behind the last one.
                left = [(*row[:-1], min(row[-1], many)) if row[0] in ("go", "unless") else row for row in rows[:many]]
                self.assertIs(follows(program, Code(1, 0, 3, [], [], left)), False)

    def test_other_rows_of_terms(self):
        program = Program(1, 0, [Function("f", ["a"], [("add", A, ONE)])], [], [("tell", ("sub", X, Y)), ("put", X, Y)])
        block = [("number", 2, 1), ("name", 1, "a"), ("store", 7, 1), ("load", 0, 7), ("add", 0, 0, 2)]
        for rows, wanted in (
            ([("name", 0, "x"), ("name", 1, "y"), ("sub", 0, 0, 1), ("tell", 0)], True), ([("name", 0, "y"), ("name", 2, "x"), ("sub", 1, 2, 0), ("tell", 1)], True),
            ([("true", 2), ("name", 0, "x"), ("name", 1, "y"), ("sub", 0, 0, 1), ("tell", 0)], True), ([("name", 0, "x"), ("name", 1, "y"), ("sub", 0, 1, 0), ("tell", 0)], False),
            ([("name", 0, "x"), ("name", 1, "y"), ("sub", 0, 0, 1), ("tell", 1)], False), ([("name", 0, "x"), ("name", 1, "y"), ("sub", 0, 0, 1), ("keep", "x", 0)], False),
            ([("name", 0, "x"), ("name", 1, "y"), ("sub", 0, 0, 1), ("open",), ("tell", 0)], False), ([("name", 0, "x"), ("name", 1, "y"), ("sub", 0, 0, 1), ("put", 0, 0)], False),
        ):
            for put, right in (
                ([("name", 0, "x"), ("name", 1, "y"), ("put", 0, 1)], True), ([("name", 0, "y"), ("name", 1, "x"), ("put", 1, 0)], True), ([("name", 2, "y"), ("name", 1, "x"), ("put", 1, 2)], True),
                ([("name", 0, "x"), ("name", 1, "y"), ("put", 1, 0)], False), ([("name", 0, "x"), ("put", 0, 1)], False), ([("name", 0, "x"), ("name", 1, "y"), ("put", 0, 0)], False), ([("name", 0, "x"), ("name", 1, "y"), ("tell", 0)], False),
            ):
                code = Code(1, 0, 3, [], [("f", ["a"], [block])], [("spend",), *rows, ("spend",), *put])
                self.assertIs(follows(program, code), wanted and right)
                self.assertIs(slow_follows(program, code), wanted and right)

    def test_put_in_one_register(self):
        program = Program(1, 0, [], [], [("put", X, X)])
        for rows, wanted in (([("name", 0, "x"), ("put", 0, 0)], False), ([("name", 0, "x"), ("name", 1, "x"), ("put", 0, 1)], True), ([("name", 0, "x"), ("name", 1, "x"), ("put", 1, 1)], False)):
            self.assertIs(follows(program, Code(1, 0, 3, [], [], [("spend",), *rows])), wanted)

    def test_what_a_deed_left_is_gone(self):
        # The rows of each term begin with nothing in the registers and cells.
        program = Program(1, 0, [], [], [("tell", X), ("tell", X)])
        first = [("spend",), ("name", 0, "x"), ("tell", 0)]
        for second, wanted in (([("name", 0, "x"), ("tell", 0)], True), ([("tell", 0)], False)):
            self.assertIs(follows(program, Code(1, 0, 3, [], [], [*first, ("spend",), *second])), wanted)
        kept = [("spend",), ("name", 0, "x"), ("name", 1, "x"), ("store", 0, 1), ("tell", 0)]
        self.assertIs(follows(program, Code(1, 0, 3, [], [], [*kept, ("spend",), ("load", 0, 0), ("tell", 0)])), False)
        self.assertIs(follows(program, Code(1, 0, 3, [], [], [*kept, *first])), True)

    def test_each_row_bent(self):
        rng = random.Random(5)
        seen = []
        programs = [self.program] + [drawn_program(rng, 8) for _ in range(25)]
        for program in programs:
            code = made(program, rng.choice([3, 4]))
            for _ in range(60):
                rows = list(code.rows)
                functions = [[one, params, [list(block) for block in blocks]] for one, params, blocks in code.functions]
                target = rows
                if functions and rng.random() < 0.3:
                    target = rng.choice(rng.choice(functions)[2])
                if not target:
                    continue
                index = rng.randrange(len(target))
                bend = rng.randrange(4)
                if bend == 0:
                    target.pop(index)
                elif bend == 1:
                    target.insert(index, rng.choice(target))
                elif bend == 2:
                    other = rng.randrange(len(target))
                    target[index], target[other] = target[other], target[index]
                else:
                    row = target[index]
                    spots = [at for at in range(1, len(row)) if isinstance(row[at], int)]
                    if spots:
                        at = rng.choice(spots)
                        target[index] = (*row[:at], max(0, row[at] + rng.choice([-1, 1])), *row[at + 1:])
                try:
                    bent = Code(code.least, code.rounds, 16, code.inputs, functions, rows)
                except BadCode:
                    continue
                wanted = slow_follows(program, bent)
                self.assertIs(follows(program, bent), wanted)
                seen.append(wanted)
        self.assertGreater(seen.count(False), 400)
        self.assertGreater(seen.count(True), 40)

    def test_other_right_code_runs_alike(self):
        # Other cuts than the fewest, and rows with stores where none are needed.
        program = Program(1, 0, [], ["x"], [("tell", EIGHT)])
        for cut in ([(0,)], [(0,), (1,)], [(0, 0), (0, 1), (1, 1)], []):
            code = Code(1, 0, 4, ["x"], [], [("spend",), *rows_with_cut(EIGHT, 4, cut), ("tell", 0)])
            self.assertIs(follows(program, code), True)
            self.assertEqual(run_code(code, 8, [5], {}, [], 3), run(program, 8, [5], {}, [], 3))
            slow = SlowMachine(code, 8, [5], {}, [], 3)
            self.assertEqual(slow.parts()[3], run(program, 8, [5], {}, [], 3).told)

    def test_errors(self):
        for bad in [*STRANGE, 5, self.code]:
            self.check_part(BadProgram, "program", follows, bad, bad)
            self.check_part(BadProgram, "program", need_of_program, bad)
        for bad in [*STRANGE, 5, self.program, str(self.code)]:
            self.check_part(BadCode, "code", follows, self.program, bad)
            self.check_part(BadCode, "code", registers_of, bad)
            self.check_part(BadCode, "code", cells_of, bad)
        self.assertIs(follows(code=self.code, program=self.program), True)


class TestNumbers(Raises, unittest.TestCase):
    def test_need_of_program(self):
        for deeds, functions, need in (
            ([], [], 1), ([("ask", "x")], [], 1), ([("tell", X)], [], 1), ([("put", X, X)], [], 2), ([("put", EIGHT, X)], [], 4), ([("put", X, EIGHT)], [], 4), ([("put", EIGHT, EIGHT)], [], 5), ([("tell", ("add", X, X))], [], 2),
            ([("set", "x", EIGHT)], [], 4), ([("when", ("eq", EIGHT, EIGHT), [], [])], [], 5), ([("when", ("true",), [("tell", EIGHT)], [])], [], 4), ([("when", ("true",), [], [("put", EIGHT, EIGHT)])], [], 5),
            ([("while", ("true",), [("tell", ("add", X, X))])], [], 2), ([("while", ("eq", X, X), [])], [], 2), ([], [Function("f", ["x"], [X, ("add", X, X)])], 2), ([("tell", EIGHT)], [Function("f", ["x"], [("add", X, X)])], 4),
            ([("tell", X)], [Function("f", [], [ONE]), Function("g", ["x"], [("if", ("eq", X, X), X, X)])], 3),
        ):
            self.assertEqual(need_of_program(program=Program(1, 0, functions, [], deeds)), need)

    def test_against_the_terms(self):
        rng = random.Random(6)
        for _ in range(60):
            program = drawn_program(rng, 30)
            needs = [slow_need(term) for term in terms_by_spend(program.deeds) if term is not None]
            needs += [slow_need(result) for function in program.functions for result in function.results]
            self.assertEqual(need_of_program(program), max(needs, default=1))
            self.assertLessEqual(len(needs), len(terms_of(program)))

    def test_registers_and_cells(self):
        empty = Code(1, 0, 16, [], [], [])
        self.assertEqual((registers_of(empty), cells_of(empty)), (0, 0))
        for row, registers, cells in (
            (("spend",), 0, 0), (("open",), 0, 0), (("ask", "x"), 0, 0), (("name", 15, "a"), 16, 0), (("number", 2, 999), 3, 0), (("true", 0), 1, 0), (("hand", 4), 5, 0), (("store", 9, 1), 2, 10), (("store", 0, 15), 16, 1),
            (("load", 3, 999), 4, 1000), (("add", 1, 2, 3), 4, 0), (("add", 3, 2, 1), 4, 0), (("if", 0, 1, 7, 2), 8, 0), (("shl 31", 1, 2), 3, 0), (("keep", "x", 6), 7, 0), (("tell", 6), 7, 0), (("put", 1, 6), 7, 0), (("put", 6, 1), 7, 0), (("unless", 5, 1), 6, 0), (("go", 1), 0, 0),
        ):
            code = Code(1, 0, 16, [], [], [row])
            self.assertEqual((registers_of(code), cells_of(code)), (registers, cells), row)
        blocks = Code(1, 0, 16, [], [("f", [], [[("true", 5)], [("load", 0, 3)]]), ("g", [], [[("store", 7, 1), ("call f 1", 8)]])], [("call g 0", 2)])
        self.assertEqual((registers_of(code=blocks), cells_of(code=blocks)), (9, 8))

    def test_fewer_registers_than_the_need(self):
        deep = Program(1, 0, [], ["x"], [("tell", EIGHT)])
        self.assertEqual([(registers_of(made(deep, many)), cells_of(made(deep, many))) for many in (3, 4, 5, 16)], [(3, 1), (4, 0), (4, 0), (4, 0)])
        self.assertEqual(made(deep, 3).rows[1:-1], rows_for(EIGHT, 3))


if __name__ == "__main__":
    unittest.main()
