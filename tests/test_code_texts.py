"""The texts of code."""

import random
import re
import time
import unittest

from helpers import STRANGE, Raises, has_no_list
from leastequal.code import Code
from leastequal.errors import BadText
from leastequal.made import made
from leastequal.program import Program
from leastequal.words import shape_of
from slow_machine import drawn_code
from slow_rules import balanced
from test_code import GOOD

TEXT = """least 4 rounds 10 registers 3
inputs x y
function step a n
block
name 0 a
name 1 n
add 0 0 1
block
name 0 n
number 1 1
sub 0 0 1
function one
block
number 0 1
rows
spend
open
name 0 x
hand 0
loop step 0 0
keep y 0
spend
ask x
unless 2 12
put 0 1
tell 2
go 6
open
call one 0 1
store 999 1
load 2 0
true 0
false 1
shl 31 0 2
if 0 1 2 0"""

HEAD = "least 1 rounds 0 registers 3\ninputs\n"
BARE = HEAD + "rows\n"
FUNCTION = HEAD + "function f a\nblock\n"
# Texts that cannot be read, and the line and the item that are told.
WRONG = [
    # The first line.
    ("", 0, 0), ("least", 0, 1), ("least 1", 0, 2), ("least 1 rounds", 0, 3), ("least 1 rounds 0", 0, 4), ("least 1 rounds 0 registers", 0, 5), ("Least 1 rounds 0 registers 3", 0, 0),
    ("least 0 rounds 0 registers 3", 0, 1), ("least 9 rounds 0 registers 3", 0, 1), ("least 01 rounds 0 registers 3", 0, 1), ("least -1 rounds 0 registers 3", 0, 1), ("least x rounds 0 registers 3", 0, 1),
    ("least 1 round 0 registers 3", 0, 2), ("least 1 rounds 1001 registers 3", 0, 3), ("least 1 rounds -1 registers 3", 0, 3), ("least 1 rounds 00 registers 3", 0, 3), ("least 1 rounds -0 registers 3", 0, 3),
    ("least 1 rounds 0 register 3", 0, 4), ("least 1 rounds 0 registers 2", 0, 5), ("least 1 rounds 0 registers 17", 0, 5), ("least 1 rounds 0 registers 03", 0, 5), ("least 1 rounds 0 registers 3 4", 0, 6),
    ("least 1 rounds 0 registers 3 ", 0, 6), (" least 1 rounds 0 registers 3", 0, 0), ("least  1 rounds 0 registers 3", 0, 1), ("least +1 rounds 0 registers 3", 0, 1), ("inputs", 0, 0), ("rows", 0, 0),
    # Inputs.
    ("least 1 rounds 0 registers 3", 1, 0), ("least 1 rounds 0 registers 3\n", 1, 0), ("least 1 rounds 0 registers 3\nrows", 1, 0), ("least 1 rounds 0 registers 3\nfunction f", 1, 0),
    (HEAD[:-1], 2, 0), (HEAD, 2, 0), (HEAD[:-1] + " a a\nrows", 1, 2), (HEAD[:-1] + " a b c d e f g\nrows", 1, 7), (HEAD[:-1] + " true\nrows", 1, 1), (HEAD[:-1] + " \nrows", 1, 1), (HEAD[:-1] + " a 5\nrows", 1, 2),
    (HEAD[:-1] + " abcdefghi\nrows", 1, 1), (HEAD + "inputs\nrows", 2, 0), (HEAD + "block\nrows", 2, 0), (HEAD + "name 0 a\nrows", 2, 0), (HEAD + "\nrows", 2, 0), (HEAD + "rows 1", 2, 1), (HEAD + "rows ", 2, 1),
    # Functions and blocks.
    (HEAD + "function", 2, 1), (HEAD + "function true", 2, 1), (HEAD + "function F", 2, 1), (HEAD + "function f a a", 2, 3), (HEAD + "function f a b c d e f g", 2, 8), (HEAD + "function f ", 2, 2),
    (HEAD + "function f", 3, 0), (HEAD + "function f\nrows", 3, 0), (HEAD + "function f\nfunction g", 3, 0), (HEAD + "function f\nname 0 a", 3, 0), (HEAD + "function f\nblock", 4, 0), (HEAD + "function f\nblock 0", 3, 1),
    (HEAD + "function f\nblock\nfunction f\nblock\nrows", 4, 1), (HEAD + "function f\nblock\n" * 2 + "rows", 4, 1), (HEAD + "function f\n" + "block\n" * 7 + "rows", 9, 0),
    (HEAD + "".join(f"function f{index}\nblock\n" for index in range(9)) + "rows", 18, 0), (FUNCTION + "spend\nrows", 4, 0), (FUNCTION + "keep a 0\nrows", 4, 0), (FUNCTION + "go 0\nrows", 4, 0), (FUNCTION + "tell 0\nrows", 4, 0),
    (FUNCTION + "flag 0 p\nrows", 4, 0), (FUNCTION + "inputs\nrows", 4, 0), (FUNCTION + "end\nrows", 4, 0), (FUNCTION + "\nrows", 4, 0), (FUNCTION + "call f 0 0\nrows", 4, 1), (FUNCTION + "block\ncall f 0 0\nrows", 5, 1),
    # Calls and loops.
    (FUNCTION + "rows\ncall f 1 0", 5, 2), (FUNCTION + "rows\ncall g 0 0", 5, 1), (FUNCTION + "rows\ncall f 00 0", 5, 2), (FUNCTION + "rows\ncall f -1 0", 5, 2), (FUNCTION + "rows\ncall f 6 0", 5, 2), (FUNCTION + "rows\ncall f", 5, 2),
    (FUNCTION + "rows\ncall", 5, 1), (FUNCTION + "rows\ncall f 0", 5, 3), (FUNCTION + "rows\ncall f 0 3", 5, 3), (FUNCTION + "rows\ncall f 0 0 0", 5, 4), (FUNCTION + "rows\nloop f 1 0", 5, 2), (FUNCTION + "block\nrows\nloop f 0 0", 6, 2),
    (FUNCTION + "block\nrows\nloop f 1 0", 6, 2), (HEAD + "function f\nblock\nrows\nloop f 0 0", 5, 2), (FUNCTION + "rows\nloop g 0 0", 5, 1), (FUNCTION + "rows\nloop", 5, 1), (FUNCTION + "rows\nloop  f 0 0", 5, 1),
    (FUNCTION + "function g\nblock\ncall g 0 0\nrows", 6, 1), (FUNCTION + "function g\nblock\ncall h 0 0\nfunction h\nblock\nrows", 6, 1),
    # Rows.
    (BARE, 3, 0), (BARE + "rows", 3, 0), (BARE + "block", 3, 0), (BARE + "function f", 3, 0), (BARE + "end", 3, 0), (BARE + "flag 0 p", 3, 0), (BARE + "Name 0 a", 3, 0), (BARE + "name", 3, 1), (BARE + "name 0", 3, 2), (BARE + "name 3 a", 3, 1),
    (BARE + "name -1 a", 3, 1), (BARE + "name 00 a", 3, 1), (BARE + "name 0 true", 3, 2), (BARE + "name 0 A", 3, 2), (BARE + "name 0 5", 3, 2), (BARE + "name 0 a b", 3, 3), (BARE + "name 0 a ", 3, 3), (BARE + "name  0 a", 3, 1), (BARE + " name 0 a", 3, 0),
    (BARE + "number 0", 3, 2), (BARE + "number 0 2147483648", 3, 2), (BARE + "number 0 -2147483648", 3, 2), (BARE + "number 0 -0", 3, 2), (BARE + "number 0 01", 3, 2), (BARE + "number 0 x", 3, 2), (BARE + "number 0 99999999999999", 3, 2),
    (BARE + "true", 3, 1), (BARE + "true 3", 3, 1), (BARE + "false 0 0", 3, 2), (BARE + "open 0", 3, 1), (BARE + "hand", 3, 1), (BARE + "hand 3", 3, 1), (BARE + "store 1000 0", 3, 1), (BARE + "store -1 0", 3, 1), (BARE + "store 0 3", 3, 2),
    (BARE + "store 0", 3, 2), (BARE + "load 0 1000", 3, 2), (BARE + "load 3 0", 3, 1), (BARE + "load 0", 3, 2), (BARE + "add 0 0", 3, 3), (BARE + "add 0 0 3", 3, 3), (BARE + "add 0 0 0 0", 3, 4), (BARE + "if 0 0 0", 3, 4), (BARE + "neg 0 0 0", 3, 3),
    (BARE + "shl", 3, 1), (BARE + "shl 0 0 0", 3, 1), (BARE + "shl 32 0 0", 3, 1), (BARE + "shl 01 0 0", 3, 1), (BARE + "shl x 0 0", 3, 1), (BARE + "shl 1", 3, 2), (BARE + "shl 1 0", 3, 3), (BARE + "shl 1 0 0 0", 3, 4), (BARE + "shl 1 3 0", 3, 2),
    (BARE + "spend 0", 3, 1), (BARE + "spend ", 3, 1), (BARE + "keep", 3, 1), (BARE + "keep x", 3, 2), (BARE + "keep 0 x", 3, 1), (BARE + "keep x 3", 3, 2), (BARE + "ask", 3, 1), (BARE + "ask 0", 3, 1), (BARE + "ask x 0", 3, 2), (BARE + "tell", 3, 1),
    (BARE + "tell x", 3, 1), (BARE + "put 0", 3, 2), (BARE + "put 3 0", 3, 1), (BARE + "put 0 0 0", 3, 3), (BARE + "spend\n", 4, 0), (BARE + "spend\n\nspend", 4, 0), (BARE + "spend\r\nspend", 3, 0), (BARE + "spend\nspend\tx", 4, 0),
    # Leads.
    (BARE + "go", 3, 1), (BARE + "go x", 3, 1), (BARE + "go -1", 3, 1), (BARE + "go 01", 3, 1), (BARE + "go 00", 3, 1), (BARE + "go 0", 3, 1), (BARE + "go 1 1", 3, 2), (BARE + "unless 0", 3, 2), (BARE + "unless 3 1", 3, 1), (BARE + "unless 0 0", 3, 2),
    (BARE + "open\ngo 0", 4, 1), (BARE + "spend\ngo 1", 4, 1), (BARE + "spend\nunless 0 1", 4, 2), (BARE + "spend\nopen\nunless 1 1", 5, 2), (BARE + "go 2", 3, 1), (BARE + "unless 0 2", 3, 2), (BARE + "go 2\nopen\nadd 0 0 1\ngo 5", 6, 1),
    (BARE + "go 3\nopen", 4, 0), (BARE + "go 5\nunless 0 9\nname 0 a", 5, 2), (BARE + "go 99999999999\nspend", 4, 0), (BARE + "go " + "9" * 6000 + "\nadd 0 1 2", 4, 3), (BARE + "go 9\nadd 0 1", 4, 3), (BARE + "go 9\nadd 0 1\nspend", 4, 3),
    (BARE + "go 9\nspend\n", 5, 0), (BARE + "go 0" + "0" * 20, 3, 1), (BARE + "unless 0 99999999999", 3, 2),
]


class Refused(Exception):
    """The place of an item that cannot stand."""


class SlowReader:
    """The first item of a text of code that cannot stand, item by item."""

    def __init__(self, text):
        self.lines = [line.split(" ") for line in text.split("\n")]
        self.at = 0
        self.functions = {}

    def place(self):
        try:
            self.whole()
        except Refused as error:
            return error.args
        return None

    def head(self):
        return self.lines[self.at][0] if self.at < len(self.lines) else None

    def line(self, *tests):
        """Looks at a line by a test for each of its items; the last test may stand for all that follow."""
        if self.at == len(self.lines):
            raise Refused(self.at, 0)
        items = self.lines[self.at]
        for index, test in enumerate(tests):
            if index == len(items) or not test(items[index]):
                raise Refused(self.at, index)
        if len(items) > len(tests):
            raise Refused(self.at, len(tests))
        self.at += 1
        return items

    def names(self, ahead):
        items = self.lines[self.at] if self.at < len(self.lines) else []
        tests = list(ahead)
        for index in range(len(ahead), max(len(items), len(ahead))):
            known = items[len(ahead):index]
            tests.append(lambda item, known=known: is_name(item) and item not in known and len(known) < 6)
        return self.line(*tests)[len(ahead):]

    def whole(self):
        items = self.line(is_("least"), within(1, 8), is_("rounds"), within(0, 1000), is_("registers"), within(3, 16))
        self.register = within(0, int(items[5]) - 1)
        self.names([is_("inputs")])
        while self.head() == "function" and len(self.functions) < 8:
            self.function()
        self.line(is_("rows"))
        rows = []
        while self.at < len(self.lines):
            rows.append(self.row(rows, True))
        last = (len(self.lines) - 1, len(self.lines[-1]) - 1)
        if any(int(row[-1]) > len(rows) if len(row[-1]) < 12 else True for row in rows if row[0] in ("go", "unless")):
            raise Refused(*last)

    def function(self):
        items = self.names([is_("function"), lambda item: is_name(item) and item not in self.functions])
        name = self.lines[self.at - 1][1]
        many = 0
        while many == 0 or (self.head() == "block" and many < 6):
            self.line(is_("block"))
            many += 1
            while self.begins(self.head(), False):
                self.row([], False)
        self.functions[name] = (len(items), many)

    def begins(self, word, deeds):
        plain = word in ("name", "number", "true", "false", "open", "hand", "store", "load", "shl", "call", "loop") or shape_of(word) is not None
        return plain or (deeds and word in ("spend", "keep", "ask", "tell", "put", "unless", "go"))

    def row(self, rows, deeds):
        items = self.lines[self.at]
        word, register = items[0], self.register
        shapes = {
            "name": [register, is_name], "number": [register, within(-2147483647, 2147483647)], "true": [register], "false": [register], "open": [], "hand": [register],
            "store": [within(0, 999), register], "load": [register, within(0, 999)], "shl": [within(1, 31), register, register], "spend": [], "keep": [is_name, register], "ask": [is_name],
            "tell": [register], "put": [register, register], "unless": [register, lambda item: leads(item, rows)], "go": [lambda item: leads(item, rows)],
            "call": [lambda item: item in self.functions, lambda item: item in list("012345") and int(item) < self.functions[items[1]][1], register],
            "loop": [lambda item: item in self.functions, lambda item: item in list("012345") and int(item) < self.functions[items[1]][1] == self.functions[items[1]][0], register],
        }
        tests = shapes.get(word)
        if tests is None and shape_of(word) is not None:
            tests = [register] * (1 + len(shape_of(word)[1]))
        return self.line(lambda item: self.begins(item, deeds), *(tests or []))


def is_(word):
    return lambda item: item == word


def within(least, most):
    return lambda item: re.fullmatch("0|-?[1-9][0-9]*", item) is not None and len(item) < 15 and least <= int(item) <= most


def is_name(item):
    return re.fullmatch("[a-z][a-z0-9]{0,7}", item) is not None and item not in ("true", "false")


def leads(item, rows):
    if re.fullmatch("0|[1-9][0-9]*", item) is None:
        return False
    return len(item) > 10 or int(item) > len(rows) or (int(item) < len(rows) and rows[int(item)] == ["spend"])


class TestTexts(Raises, unittest.TestCase):
    def test_line_by_line(self):
        self.assertEqual(str(Code(*GOOD)).split("\n"), TEXT.split("\n"))
        self.assertEqual(str(Code(8, 1000, 16, [], [], [])), "least 8 rounds 1000 registers 16\ninputs\nrows")

    def test_read_back(self):
        self.assertEqual(Code.read(TEXT), Code(*GOOD))
        self.assertEqual(Code.read(text=TEXT), Code(*GOOD))
        self.assertIsInstance(Code.read(TEXT), Code)
        self.assertTrue(has_no_list((Code.read(TEXT).inputs, Code.read(TEXT).functions, Code.read(TEXT).rows)))
        rng = random.Random(2)
        for _ in range(150):
            code = drawn_code(rng)
            self.assertEqual(Code.read(str(code)), code)
            self.assertIsNone(SlowReader(str(code)).place())

    def test_rims(self):
        for text in (BARE + "go 1", BARE + "unless 2 1", BARE + "spend\ngo 0", BARE + "go 2\nspend", FUNCTION + "rows\nloop f 0 0\ncall f 0 2", BARE + "store 999 0\nload 2 0", HEAD + "function rows block\nblock\nrows", BARE + "keep rows 0"):
            self.assertEqual(str(Code.read(text)), text)

    def test_wrong_texts(self):
        for text, line, item in WRONG:
            with self.subTest(text=text[-60:]):
                self.check_text(line, item, Code.read, text)
                self.assertEqual(SlowReader(text).place(), (line, item))

    def test_no_strings(self):
        for bad in [*STRANGE, 5, [TEXT], Code(*GOOD), TEXT.encode()]:
            self.check_text(0, 0, Code.read, bad)

    def test_cut_short(self):
        items = [line.split(" ") for line in TEXT.split("\n")]
        for line in range(len(items)):
            for many in range(len(items[line]) + 1):
                text = "\n".join([" ".join(one) for one in [*items[:line], *([items[line][:many]] if many else [])]])
                self.look(text)
        self.assertEqual(SlowReader("\n".join(TEXT.split("\n")[:14])).place(), (14, 0))

    def look(self, text):
        """Reads a text, which may be wrong, and compares with the slow reader."""
        place = SlowReader(text).place()
        if place is None:
            self.assertEqual(str(Code.read(text)), text)
        else:
            with self.assertRaises(BadText) as caught:
                Code.read(text)
            self.assertEqual((caught.exception.line, caught.exception.item), place, text)
        return place is None

    def test_each_item_and_line_bent(self):
        rng = random.Random(3)
        more = ["0", "1", "2", "3", "12", "99", "-1", "", "x", "name", "rows", "spend", "go", "block", "step", "one", "add", "true", "call", "loop", "(", "shl", "1000"]
        texts = [TEXT, str(drawn_code(rng)), str(drawn_code(rng))]
        seen = []
        for text in texts:
            lines = text.split("\n")
            for at, line in enumerate(lines):
                items = line.split(" ")
                bent = [lines[:at] + lines[at + 1:], lines[:at] + [line] + lines[at:], lines[:at] + [""] + lines[at:], lines[:at] + [rng.choice(lines)] + lines[at:], lines[:at] + [rng.choice(lines)] + lines[at + 1:]]
                other = rng.randrange(len(lines))
                moved = list(lines)
                moved[at], moved[other] = moved[other], moved[at]
                bent.append(moved)
                for index in range(len(items) + 1):
                    forms = [items[:index] + [rng.choice(more)] + items[index:], items[:index] + [""] + items[index:]]
                    if index < len(items):
                        forms += [items[:index] + [rng.choice(more)] + items[index + 1:], items[:index] + items[index + 1:], items[:index] + [items[index]] + items[index:], items[:index] + [items[index] + "0"] + items[index + 1:]]
                    bent += [lines[:at] + [" ".join(form)] + lines[at + 1:] for form in forms]
                for some in bent:
                    seen.append(self.look("\n".join(some)))
        self.assertGreater(seen.count(True), 100)
        self.assertGreater(seen.count(False), 500)

    def test_great_texts_in_a_short_time(self):
        started = time.time()
        term = balanced("add", [("name", "a")] * 1000)
        code = made(Program(1, 0, [], ["a"], [("tell", term)] * 30), 3)
        self.assertGreater(len(code.rows), 50000)
        self.assertEqual(Code.read(str(code)), code)
        self.assertLess(time.time() - started, 10)


if __name__ == "__main__":
    unittest.main()
