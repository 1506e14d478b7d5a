"""Code: what it may be made of, and its texts."""

import random
import unittest

from helpers import STRANGE, Raises, as_lists, has_no_list
from leastequal.code import Code
from leastequal.errors import BadCode, BadNumber
from leastequal.words import shape_of
from slow_machine import LABELS, drawn_code

FIELDS = ("least", "rounds", "registers", "inputs", "functions", "rows")
STEP = ("step", ("a", "n"), ((("name", 0, "a"), ("name", 1, "n"), ("add", 0, 0, 1)), (("name", 0, "n"), ("number", 1, 1), ("sub", 0, 0, 1))))
ONE = ("one", (), ((("number", 0, 1),),))
GOOD = (4, 10, 3, ("x", "y"), (STEP, ONE), (
    ("spend",), ("open",), ("name", 0, "x"), ("hand", 0), ("loop step 0", 0), ("keep", "y", 0), ("spend",), ("ask", "x"), ("unless", 2, 12), ("put", 0, 1),
    ("tell", 2), ("go", 6), ("open",), ("call one 0", 1), ("store", 999, 1), ("load", 2, 0), ("true", 0), ("false", 1), ("shl 31", 0, 2), ("if", 0, 1, 2, 0),
))


def code_of(**bent):
    return Code(**{**dict(zip(FIELDS, GOOD)), **bent})


def with_rows(*rows):
    return code_of(rows=rows)


class TestMade(Raises, unittest.TestCase):
    def test_attributes(self):
        code = Code(*GOOD)
        self.assertEqual(tuple(getattr(code, field) for field in FIELDS), GOOD)
        code = Code(*as_lists(GOOD))
        self.assertEqual(tuple(getattr(code, field) for field in FIELDS), GOOD)
        self.assertTrue(has_no_list(tuple(getattr(code, field) for field in FIELDS)))
        self.assertEqual(set(vars(code)), set(FIELDS))

    def test_passed_lists_change_later(self):
        passed = as_lists(GOOD)
        code = Code(*passed)
        for value in (passed[3], passed[4][0][1], passed[4][0][2][0][0], passed[4], passed[5][0], passed[5]):
            value.clear()
        self.assertTrue(code == Code(*GOOD))
        self.assertEqual(as_lists(GOOD), as_lists(tuple(getattr(code, field) for field in FIELDS)))

    def test_equality(self):
        others = (5, 11, 4, ("x",), (STEP, ONE, ("two", (), ((),))), GOOD[5][:-1])
        code = Code(*GOOD)
        self.assertTrue(code == Code(*as_lists(GOOD)) and not code != Code(*GOOD))
        for field, other in zip(FIELDS, others):
            self.assertFalse(code == code_of(**{field: other}), field)
            self.assertTrue(code != code_of(**{field: other}))
        for other in [*STRANGE, 5, GOOD, str(code)]:
            self.assertIs(code == other, False)

    def test_numbers(self):
        for field, least, most in (("least", 1, 8), ("rounds", 0, 1000), ("registers", 3, 16)):
            for good in (least, most):
                self.assertEqual(getattr(code_of(**{field: good}), field), good)
            for bad in [*STRANGE, least - 1, most + 1, -1, "3", [3], 10 ** 50]:
                self.check_part(BadNumber, field, code_of, **{field: bad})

    def test_inputs(self):
        for good in ((), ("a",), ("a", "b", "c", "d", "e", "f"), ("abcdefgh", "a1")):
            self.assertEqual(code_of(inputs=good).inputs, good)
        for bad in [*STRANGE, 5, "abc", {"a": 1}, ("a", "a"), ("a", "b", "a"), tuple("abcdefg"), ("true",), ("false",), ("A",), ("",), ("abcdefghi",), ("1a",), (5,), (None,), (["a"],)]:
            self.check_part(BadCode, "inputs", code_of, inputs=bad)

    def test_functions(self):
        def named(many):
            return [(f"f{index}", (), ((),)) for index in range(many)]
        for good in ((), named(1), named(8), [("f", "abcdef", [()] * 6)][:0], [("f", tuple("abcdef"), [()] * 6)], [("f", (), [[]])]):
            code_of(functions=good, rows=())
        block = (("name", 0, "a"),)
        for bad in [
            *STRANGE, 5, "abc", {}, named(9), named(1) * 2, [*named(3), ("f1", ("a",), ((),))], [()], [5], ["fab"], [("f", ())], [("f", (), ((),), 1)], [("true", (), ((),))], [("F", (), ((),))],
            [(5, (), ((),))], [(["f"], (), ((),))], [("f", ("a", "a"), ((),))], [("f", tuple("abcdefg"), ((),))], [("f", ("false",), ((),))], [("f", "ab", ((),))], [("f", None, ((),))], [("f", (1,), ((),))],
            [("f", (), ())], [("f", (), [()] * 7)], [("f", (), None)], [("f", (), "ab")], [("f", (), (None,))], [("f", (), (5,))], [("f", (), ("ab",))], [("f", (), (block, (("name", 3, "a"),)))], [("f", (), ((("spend",),),))],
        ]:
            self.check_part(BadCode, "functions", code_of, functions=bad, rows=())

    def test_blocks_have_no_deed_rows(self):
        for row in (("spend",), ("keep", "a", 0), ("ask", "a"), ("tell", 0), ("put", 0, 1), ("unless", 0, 1), ("go", 1)):
            self.check_part(BadCode, "functions", code_of, functions=[("f", (), ((row,),))])
            code_of(rows=(row, ("spend",)))

    def test_blocks_call_functions_ahead(self):
        def code(label):
            return code_of(functions=(STEP, ONE, ("new", ("i",), ((("open",), (label, 0)),)), ("last", (), ((),))), rows=())
        for good in ("call step 0", "call step 1", "loop step 0", "loop step 1", "call one 0"):
            code(good)
        for bad in ("call step 2", "loop step 2", "loop one 0", "call one 1", "call new 0", "loop new 0", "call last 0", "call gone 0", "loop gone 0", "call step 5", "call step 6", "call step 01", "call step", "jump step 0"):
            self.check_part(BadCode, "functions", code, bad)
        # A block of a function may call no block of its own function.
        self.check_part(BadCode, "functions", code_of, functions=[("f", ("a", "b"), ((), (("call f 0", 0),)))], rows=())

    def test_rows_call_all_functions(self):
        last = ("last", ("i",), ((),))
        for good in ("call step 1", "loop step 1", "call one 0", "call last 0", "loop last 0"):
            code_of(functions=(STEP, ONE, last), rows=((good, 0),))
        for bad in ("call step 2", "loop step 2", "loop one 0", "call last 1", "loop last 1", "call gone 0", "loop one 1"):
            self.check_part(BadCode, "rows", code_of, functions=(STEP, ONE, last), rows=((bad, 0),))

    def test_first_error_first(self):
        bad = (0, -1, 2, None, None, None)
        for many in range(6):
            part = FIELDS[many]
            arguments = dict(zip(FIELDS, GOOD[:many] + bad[many:]))
            self.check_part(BadNumber if many < 3 else BadCode, part, Code, **arguments)


class TestRows(Raises, unittest.TestCase):
    def right(self, *rows):
        self.assertEqual(with_rows(*rows).rows, rows)
        self.assertEqual(Code.read(str(with_rows(*rows))), with_rows(*rows))

    def wrong(self, *rows):
        self.check_part(BadCode, "rows", with_rows, *rows)

    def test_each_kind(self):
        # Each row with what its items are: registers, names, integers, cells.
        rows = [
            (("name", 2, "true1"), "rn"), (("number", 2, 2147483647), "ri"), (("number", 0, -2147483647), "ri"), (("true", 2), "r"), (("false", 2), "r"), (("open",), ""), (("hand", 2), "r"),
            (("store", 999, 2), "cr"), (("store", 0, 2), "cr"), (("load", 2, 999), "rc"), (("load", 2, 0), "rc"), (("spend",), ""), (("keep", "x", 2), "nr"), (("ask", "abcdefgh"), "n"),
            (("tell", 2), "r"), (("put", 2, 2), "rr"), (("call step 1", 2), "r"), (("loop step 1", 2), "r"),
        ]
        for label in LABELS:
            many = len(shape_of(label)[1])
            rows.append(((label, 2, *[2] * many), "r" * (many + 1)))
        bad = {"r": [3, 16], "n": ["true", "false", "A", "", "abcdefghi", "1a", "a b", 5], "i": [2147483648, -2147483648], "c": [1000, 10 ** 9]}
        for row, kinds in rows:
            self.right(row)
            for other in (row[:-1], (*row, 0), (*row, "a"), (row[0].upper(), *row[1:]), row[0], {row[0]: 1}):
                self.wrong(other)
            for index, kind in enumerate(kinds, 1):
                for one in [*STRANGE, *bad[kind], "0", [2], ["x"], (), 10 ** 30, -10 ** 30]:
                    self.wrong((*row[:index], one, *row[index + 1:]))
            if kinds.strip("n"):
                index = kinds.index(kinds.strip("n")[0]) + 1
                self.wrong((*row[:index], "x", *row[index + 1:]))
                if kinds[index - 1] != "i":
                    self.wrong((*row[:index], -1, *row[index + 1:]))

    def test_no_flags(self):
        self.wrong(("flag", 0, "p"))
        self.check_part(BadCode, "functions", code_of, functions=[("f", (), ((("flag", 0, "p"),),))])

    def test_leads(self):
        for rows in (
            [("go", 1)], [("unless", 0, 1)], [("spend",), ("go", 0)], [("spend",), ("unless", 2, 0)], [("go", 2), ("go", 2)], [("go", 3), ("spend",), ("go", 1)],
            [("true", 0), ("spend",), ("open",), ("unless", 0, 1), ("go", 1)], [("unless", 0, 2), ("true", 0)],
        ):
            self.right(*rows)
        for rows in (
            [("go", 0)], [("unless", 0, 0)], [("go", 2)], [("unless", 0, 2)], [("true", 0), ("go", 0)], [("spend",), ("true", 0), ("go", 1)], [("spend",), ("go", 1)], [("spend",), ("unless", 0, 1)],
            [("go", 2), ("go", 1)], [("spend",), ("go", 3)], [("spend",), ("go", -1)], [("go", True)], [("unless", 0, True)], [("go", "1")], [("go", 1.0)], [("go", None)], [("go", 10 ** 40)], [("ask", "x"), ("unless", 0, 0)],
            [("true", 0), ("go", -1), ("spend",)], [("true", 0), ("unless", 0, -1), ("spend",)], [("spend",), ("go", -2)],
        ):
            self.wrong(*rows)

    def test_no_rows(self):
        for bad in [*STRANGE, 5, "ab", {}, {"a": 1}]:
            self.check_part(BadCode, "rows", code_of, rows=bad)
        for bad in [*STRANGE, 5, "open", (), [[]], (0,), (("open",),), ({},), ([],), ("word", 0), ("call step 0 0",), ("shl", 0, 1), ("shl 0", 0, 1), ("shl 32", 0, 1), ("at 1", 0, 1), ("else",), ("end",), ("rows",), ("block",)]:
            self.wrong(bad)

    def test_registers_of_the_code(self):
        for many in (3, 5, 16):
            code_of(registers=many, functions=(), rows=[("true", many - 1)])
            self.check_part(BadCode, "rows", code_of, registers=many, functions=(), rows=[("true", many)])
            self.check_part(BadCode, "functions", code_of, registers=many, functions=[("f", (), [[("true", many)]])], rows=[])

    def test_drawn_code_is_lawful(self):
        rng = random.Random(1)
        for _ in range(100):
            code = drawn_code(rng)
            self.assertTrue(Code(*[as_lists(getattr(code, field)) for field in FIELDS]) == code)


if __name__ == "__main__":
    unittest.main()
