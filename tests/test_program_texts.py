"""The texts of programs."""

import random
import unittest
from helpers import FALSE, STRANGE, TRUE, X, Y, Draw, Raises, has_no_list, name, number
from test_program import deep, nested, program_of, sized, step

from leastequal.errors import BadProgram, BadText
from leastequal.program import Function, Program
from leastequal.program_texts import program_text, read_program
from leastequal.term_texts import term_text

WHOLE = """program 8 1000
function one
result 1
function step x y
result y
result ( add x ( call one 0 ) )
inputs a b
set x ( loop step 1 a b 2 )
put ( neg a ) b
tell -5
ask z
when ( eq a 1 )
ask y
else
while true
tell a
end
when false
end
end
while ( lt a b )
when true
else
ask x
end
end"""

# Texts that cannot be read, and the line and the item that are told.
WRONG = [
    # Lines that are missing or one too many, empty items.
    ("", 0, 0), ("program 1 0", 1, 0), ("program 1 0\n", 1, 0), ("inputs", 0, 0), ("program 1 0\ninputs\n", 2, 0),
    ("\nprogram 1 0\ninputs", 0, 0), ("program 1 0\n\ninputs", 1, 0), ("program 1 0\ninputs\nend", 2, 0),
    ("program 1 0\ninputs\ninputs", 2, 0), ("program 1 0\ninputs\nelse", 2, 0), ("program 1 0\ninputs\nresult 1", 2, 0),
    ("program 1 0\ninputs\nfunction f", 2, 0), ("program 1 0\nresult 1\ninputs", 1, 0), ("program 1 0\ntell 1", 1, 0),
    ("program 1 0\nfunction f", 2, 0), ("program 1 0\nfunction f\ninputs", 2, 0), ("program 1 0\nfunction f\nresult 1", 3, 0),
    ("program 1 0\nfunction f\nfunction g\nresult 1\ninputs", 2, 0), ("program 1 0\nprogram 1 0\ninputs", 1, 0),
    ("program 1 0\ninputs\nwhen true", 3, 0), ("program 1 0\ninputs\nwhen true\nask x", 4, 0),
    ("program 1 0\ninputs\nwhile true", 3, 0), ("program 1 0\ninputs\nwhen true\nelse", 4, 0),
    ("program 1 0\ninputs\nwhen true\nelse\nask x", 5, 0), ("program 1 0\ninputs\nwhen true\nend\nend", 4, 0),
    ("program 1 0\ninputs\nwhen true\nelse\nend", 4, 0), ("program 1 0\ninputs\nwhen true\nelse\nelse\nend", 4, 0),
    ("program 1 0\ninputs\nwhen true\nelse\nask x\nelse\nask x\nend", 5, 0),
    ("program 1 0\ninputs\nwhile true\nelse\nask x\nend", 3, 0), ("program 1 0\ninputs\nwhile true\nask x\nelse\nend", 4, 0),
    ("program 1 0\r\ninputs", 0, 2), (" program 1 0\ninputs", 0, 0), ("program 1 0 \ninputs", 0, 3),
    ("program 1 0\ninputs ", 1, 1), ("program 1 0\ninputs\nask x ", 2, 2), ("program 1 0\ninputs\n ask x", 2, 0),
    ("program 1 0\ninputs\nwhile true\nend ", 3, 1), ("program 1 0\ninputs\n\nask x", 2, 0),
    # The first line.
    ("program", 0, 1), ("program 1", 0, 2), ("program\ninputs", 0, 1), ("program 1\ninputs", 0, 2), ("Program 1 0", 0, 0),
    ("program 0 0\ninputs", 0, 1), ("program 9 0\ninputs", 0, 1), ("program -1 0\ninputs", 0, 1), ("program 01 0\ninputs", 0, 1),
    ("program +1 0\ninputs", 0, 1), ("program x 0\ninputs", 0, 1), ("program 1 1001\ninputs", 0, 2), ("program 1 -1\ninputs", 0, 2),
    ("program 1 -0\ninputs", 0, 2), ("program 1 00\ninputs", 0, 2), ("program 1 0 0\ninputs", 0, 3), ("program  1 0\ninputs", 0, 1),
    ("program 1 " + "9" * 5000 + "\ninputs", 0, 2), ("program 1.0 0\ninputs", 0, 1),
    # Functions and inputs.
    ("program 1 0\nfunction", 1, 1), ("program 1 0\nfunction true\nresult 1\ninputs", 1, 1), ("program 1 0\nfunction F", 1, 1),
    ("program 1 0\nfunction f23456789", 1, 1), ("program 1 0\nfunction f x true\nresult 1", 1, 3), ("program 1 0\nfunction f ?x", 1, 2),
    ("program 1 0\nfunction f x y x\nresult 1", 1, 4), ("program 1 0\nfunction f a b c d e f\nresult 1\ninputs x a b c d e f", 3, 7),
    ("program 1 0\nfunction f a b c d e f g\nresult 1\ninputs", 1, 8), ("program 1 0\nfunction f  x", 1, 2), ("program 1 0\nfunction f 1", 1, 2),
    ("program 1 0\nfunction f\nresult 1\nfunction f\nresult 1\ninputs", 3, 1), ("program 1 0\ninputs x x", 1, 2),
    ("program 1 0\ninputs x y true", 1, 3), ("program 1 0\ninputs x 1", 1, 2), ("program 1 0\ninputs x  y", 1, 2), ("program 1 0\ninputs X", 1, 1),
    # Results.
    ("program 1 0\nfunction f x\nresult", 2, 1), ("program 1 0\nfunction f x\nresult y\ninputs", 2, 1), ("program 1 0\nfunction f x\nresult x x\ninputs", 2, 2),
    ("program 1 0\nfunction f x\nresult ( add x y )\ninputs", 2, 4), ("program 1 0\nfunction f x\nresult true\ninputs", 2, 1),
    ("program 1 0\nfunction f x\nresult ( eq x x )\ninputs", 2, 2), ("program 1 0\nfunction f x\nresult ( if ?x x x )\ninputs", 2, 3),
    ("program 1 0\nfunction f x\nresult ?x\ninputs", 2, 1), ("program 1 0\nfunction f x\nresult ( call f 0 x )\ninputs", 2, 3),
    ("program 1 0\nfunction f x\nresult ( call g 0 x )\nfunction g x\nresult x\ninputs", 2, 3), ("program 1 0\nfunction f x\nresult ( add x\ninputs", 2, 4),
    ("program 1 0\nfunction f x\nresult x\nresult ( call f 0 x )\ninputs", 3, 3), ("program 1 0\nfunction f x\nresult 2147483648\ninputs", 2, 1),
    ("program 1 0\nfunction f x\n" + "result x\n" * 7 + "inputs", 8, 0),
    # Calls and loops, one being a function with one parameter and one result, two one with two of both.
    *[(f"program 1 0\nfunction one x\nresult x\nfunction two x y\nresult x\nresult y\nfunction odd x\nresult x\nresult x\ninputs\n{line}", 10, item) for line, item in [
        ("tell ( call go 0 )", 3), ("tell ( loop go 0 1 1 )", 3), ("tell ( call one 1 x )", 4), ("tell ( call one 6 x )", 4),
        ("tell ( call one 00 x )", 4), ("tell ( loop one 1 x x )", 4), ("tell ( loop odd 0 x x )", 4), ("tell ( loop odd 1 x x )", 4),
        ("tell ( call odd 2 x )", 4), ("tell ( call odd 1 x y )", 6), ("tell ( call one 0 )", 5), ("tell ( call one 0 x y )", 6),
        ("tell ( call one 0 x ( neg y ) )", 6), ("tell ( call one 0 ( call one 0 ) )", 9), ("tell ( loop one 0 x )", 6),
        ("tell ( loop one 0 x y z )", 7), ("tell ( loop two 0 x y )", 7), ("tell ( loop two 1 x y z x )", 8), ("tell ( call one", 4),
        ("tell ( call one 0", 5), ("tell ( call one 0 x", 6), ("tell ( call one 0 ?x )", 5), ("tell ( call one 0 true )", 5),
        ("tell ( call one 0 ( eq x x ) )", 6), ("tell ( call true 0 )", 3), ("put ( call one 0 x ) ( call two 2 x y )", 10),
    ]],
    # Deeds.
    *[(f"program 1 0\ninputs\n{line}", 2, item) for line, item in [
        ("set", 1), ("set x", 2), ("set true 1", 1), ("set 1 x", 1), ("set ?x 1", 1), ("set x 1 1", 3), ("set x ?p", 2), ("set x true", 2),
        ("set x ( no true )", 3), ("set x ( neg x", 5), ("set x ( neg x ) )", 6), ("set  x 1", 1), ("set x  1", 2), ("set x +1", 2),
        ("put", 1), ("put x", 2), ("put x y z", 3), ("put true y", 1), ("put x ?y", 2), ("put ( neg x ) ( neg ?y )", 7), ("put ( neg x y", 4),
        ("tell", 1), ("tell x y", 2), ("tell ?x", 1), ("tell ( if ?p x y )", 3), ("tell ( if ( no ?p ) x y )", 5), ("tell false", 1), ("tell ( eq x x )", 2),
        ("ask", 1), ("ask x y", 2), ("ask 1", 1), ("ask true", 1), ("ask ?x", 1), ("when", 1), ("when x", 1), ("when ?x", 1), ("when ( neg x )", 2),
        ("when true x\nend", 2), ("while", 1), ("while 1", 1), ("while ( eq x ?p )", 4), ("while true true", 2), ("go", 0), ("Set x 1", 0), ("call", 0),
        ("tell -01", 1), ("tell 01", 1), ("tell -0", 1), ("tell 9999999999", 1), ("tell ( shl 0 x )", 3), ("tell ( shl 1 ?p )", 4),
    ]],
    ("program 1 0\ninputs\nwhen true\nelse x\nask x\nend", 3, 1), ("program 1 0\ninputs\nwhen true\nelse x\nend", 3, 1),
    ("program 1 0\ninputs\nwhen true\nend x", 3, 1), ("program 1 0\ninputs\nwhen true\nask X\nend", 3, 1),
]


def text_of(*lines):
    return "\n".join(["program 1 0", "inputs", *lines])


class TestProgramTexts(Raises, unittest.TestCase):
    def back(self, program):
        text = program_text(program)
        made = read_program(text)
        self.assertEqual(made, program)
        self.assertTrue(has_no_list(made.deeds))
        self.assertEqual(program_text(made), text)

    def test_all_kinds_of_deeds(self):
        self.assertEqual(program_text(read_program(WHOLE)), WHOLE)
        program = read_program(WHOLE)
        self.assertEqual((program.least, program.rounds, program.inputs), (8, 1000, ("a", "b")))
        self.assertEqual(program.functions[1], Function("step", ["x", "y"], [Y, ("add", X, ("call one 0",))]))
        last = ("while", ("lt", name("a"), name("b")), (("when", TRUE, (), (("ask", "x"),)),))
        first = ("set", "x", ("loop step 1", name("a"), name("b"), number(2)))
        self.assertEqual((program.deeds[0], program.deeds[5], len(program.deeds)), (first, last, 6))
        self.assertEqual(program.deeds[4][3][0], ("while", TRUE, (("tell", name("a")),)))

    def test_short_ones(self):
        self.assertEqual(program_text(program_of([])), "program 1 0\ninputs")
        self.assertEqual(program_text(program_of([("when", TRUE, [], [])])), text_of("when true", "end"))
        self.assertEqual(program_text(program_of([("when", TRUE, [], [("ask", "x")])])), text_of("when true", "else", "ask x", "end"))
        self.assertEqual(program_text(program_of([("while", FALSE, [("ask", "x")])])), text_of("while false", "ask x", "end"))
        for deeds in ([], [("when", TRUE, [], [])], [("when", TRUE, [], [("when", TRUE, [("ask", "x")], [])])], nested(6)):
            self.back(program_of(deeds))
        self.back(Program(3, 7, [step(), Function("x", [], [number(-1)] * 6)], ["set", "end", "else"], [("set", "tell", name("when"))]))

    def test_drawn_ones(self):
        rng = random.Random(11)
        words = ["add", "mul", "neg", "shl 3", "at", "if", "lt", "eq", "both", "no"]
        draw = Draw(rng, [X, Y, number(-3), TRUE], words)
        for _ in range(40):
            functions = [step(), Function("f", ["x", "y"], [("call step 0", draw.term("word", 9), X), draw.term("word", 30)])]
            program = Program(rng.randint(1, 8), rng.randint(0, 1000), functions, ["x", "z"], self.deeds(rng, draw, 3))
            self.back(program)
            self.look_at_changed(rng, program_text(program))

    def deeds(self, rng, draw, depth):
        return [self.deed(rng, draw, depth) for _ in range(rng.randint(0, 3))]

    def deed(self, rng, draw, depth):
        word = rng.choice(["set", "put", "tell", "ask", "when", "while"] if depth else ["set", "put", "tell", "ask"])
        one, other = draw.term("word", 9), ("loop f 1", draw.term("word", 4), X, Y)
        if word in ("set", "ask"):
            return (word, rng.choice("xyz"), *[other] * (word == "set"))
        if word in ("put", "tell"):
            return (word, one) if word == "tell" else (word, one, other)
        inner = [self.deeds(rng, draw, depth - 1) for _ in range(2 if word == "when" else 1)]
        return (word, draw.term("truth", 9), *inner)

    def look_at_changed(self, rng, text):
        """What is read once more is the text itself; what cannot be read is told no sooner than it was changed."""
        lines = [line.split(" ") for line in text.split("\n")]
        at = rng.randrange(len(lines))
        place = rng.randrange(len(lines[at]))
        choice = rng.choice(["", ")", "(", "x", "?p", "3", "end", "else", "add", "true", "function"])
        lines[at][place:place + rng.randint(0, 1)] = [choice]
        changed = "\n".join([" ".join(line) for line in lines])
        try:
            program = read_program(changed)
        except BadText as error:
            self.assertGreaterEqual((error.line, error.item), (at, place))
        else:
            self.assertEqual(program_text(program), changed)

    def test_what_cannot_be_read(self):
        for text, line, item in WRONG:
            with self.subTest(text=text):
                self.check_text(line, item, read_program, text)

    def test_each_start_of_a_text(self):
        lines = WHOLE.split("\n")
        for many in range(len(lines)):
            start = "\n".join(lines[:many])
            if many in (7, 8, 9, 10, 11, 20):
                self.assertEqual(program_text(read_program(start)), start)
            else:
                self.check_text(many, 0, read_program, start)

    def test_each_line_with_an_item_more(self):
        lines = WHOLE.split("\n")
        for index, line in enumerate(lines):
            if line.split(" ")[0] not in ("function", "inputs"):
                changed = [*lines[:index], f"{line} )", *lines[index + 1:]]
                self.check_text(index, len(line.split(" ")), read_program, "\n".join(changed))

    def test_no_string(self):
        for value in [*STRANGE, 3, ["program 1 0", "inputs"], {}, program_of([])]:
            self.check_text(0, 0, read_program, value)

    def test_thirty_levels(self):
        self.back(program_of([("tell", deep(30)), ("while", ("eq", deep(29), X), [])]))
        self.back(program_of([], [Function("f", ["x"], [deep(30)])]))
        self.check_text(2, 61, read_program, text_of(f"tell {term_text(deep(31))}"))
        self.check_text(2, 61, read_program, text_of(f"tell {term_text(deep(35))}"))
        self.check_text(2, 62, read_program, text_of(f"put x {term_text(deep(31))}"))
        self.check_text(2, 61, read_program, text_of(f"while ( eq {term_text(deep(30))} x )", "end"))
        self.check_text(2, 61, read_program, f"program 1 0\nfunction f x\nresult {term_text(deep(31))}\ninputs")
        call = term_text(deep(30)).replace("x", "( call one 0 )")
        self.back(read_program(f"program 1 0\nfunction one\nresult 1\ninputs\ntell {call}"))
        call = term_text(deep(31)).replace("x", "( call one 0 )")
        self.check_text(4, 61, read_program, f"program 1 0\nfunction one\nresult 1\ninputs\ntell {call}")

    def test_eight_functions(self):
        eight = [line for one in "abcdefgh" for line in (f"function {one} x", "result x")]
        self.back(read_program("\n".join(["program 1 0", *eight, "inputs"])))
        self.check_text(17, 0, read_program, "\n".join(["program 1 0", *eight, "function i x", "result x", "inputs"]))
        self.check_text(17, 0, read_program, "\n".join(["program 1 0", *eight, "function a x", "result x", "inputs"]))
        self.check_text(17, 0, read_program, "\n".join(["program 1 0", *eight, "function TRUE", "inputs"]))

    def test_sixty_deeds(self):
        self.back(program_of([("ask", "x")] * 60))
        self.check_text(62, 0, read_program, text_of(*["ask x"] * 61))
        self.check_text(62, 0, read_program, text_of(*["ask x"] * 60, "when x", "end"))
        self.check_text(62, 0, read_program, text_of(*["ask x"] * 60, "end"))
        inner = ["when true", *["ask x"] * 30, "else", *["ask y"] * 28, "end"]
        self.assertEqual(len(read_program(text_of(*inner, "ask z")).deeds), 2)
        self.check_text(64, 0, read_program, text_of(*inner, "ask z", "ask z"))
        self.check_text(63, 0, read_program, text_of("when true", *["ask x"] * 30, "else", *["ask y"] * 30, "end"))

    def test_depth_six(self):
        self.back(program_of(nested(6)))
        self.back(program_of(nested(5, [("ask", "x")])))
        self.check_text(8, 0, read_program, text_of(*["while true"] * 7, *["end"] * 7))
        self.check_text(8, 0, read_program, text_of(*["while true"] * 6, "ask x", *["end"] * 6))
        self.check_text(9, 0, read_program, text_of(*["when true"] * 6, "else", "ask x", *["end"] * 6))
        self.check_text(9, 0, read_program, text_of(*["when true"] * 6, "else", *["end"] * 6))

    def test_size_2000(self):
        self.back(program_of([("put", sized(2000), sized(2000)), ("while", ("eq", sized(1998), X), [])]))
        great = term_text(sized(2001))
        many = len(great.split(" "))
        self.check_text(2, many, read_program, text_of(f"tell {great}"))
        self.check_text(2, many + 1, read_program, text_of(f"put {great} x"))
        self.check_text(2, many + 1, read_program, text_of(f"set x {great}"))
        self.check_text(2, many + 1, read_program, f"program 1 0\nfunction f x\nresult {great} x\ninputs")
        self.check_text(2, many, read_program, f"program 1 0\nfunction f x\nresult {great}\ninputs")
        self.check_text(2, many + 1, read_program, text_of(f"put {great} ?x"))
        self.check_text(2, many + 1, read_program, text_of(f"tell {great} x x"))
        self.check_text(2, many, read_program, text_of(f"tell {great}", "tell ?x"))
        test = term_text(("eq", sized(1999), X))
        self.check_text(2, len(test.split(" ")), read_program, text_of(f"while {test}", "end"))

    def test_no_program(self):
        for value in [*STRANGE, 3, "program 1 0\ninputs", [], (1, 0, (), (), ()), step()]:
            self.check_part(BadProgram, "program", program_text, value)


if __name__ == "__main__":
    unittest.main()
