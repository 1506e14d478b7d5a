"""The texts of programs."""

from leastequal.deeds import FORMS, MOST_DEEDS, MOST_DEPTH, MOST_LEVELS, MOST_SIZE
from leastequal.errors import BadText
from leastequal.forms import many_parts
from leastequal.line_reader import LineReader, read_integer, read_name, read_names
from leastequal.program import MOST_FUNCTIONS, MOST_LEAST, MOST_NAMES, MOST_RESULTS, MOST_ROUNDS
from leastequal.program import Function, Program, check_program
from leastequal.spellings import is_name
from leastequal.term_reader import Ground, read_part
from leastequal.term_texts import term_text


def program_text(program):
    """The text of a program."""
    check_program(program)
    lines = [f"program {program.least} {program.rounds}"]
    for function in program.functions:
        lines.append(" ".join(["function", function.name, *function.parameters]))
        lines.extend([f"result {term_text(result)}" for result in function.results])
    lines.append(" ".join(["inputs", *program.inputs]))
    return "\n".join([*lines, *_deed_lines(program.deeds)])


def _deed_lines(deeds):
    lines = []
    for deed in deeds:
        operands = list(zip(deed[1:], FORMS[deed[0]]))
        items = [one if kind == "name" else term_text(one) for one, kind in operands if kind != "deeds"]
        lines.append(" ".join([deed[0], *items]))
        inner = [_deed_lines(one) for one, kind in operands if kind == "deeds"]
        lines.extend([line for some in inner[:1] for line in some])
        lines.extend([line for some in inner[1:] if some for line in ["else", *some]])
        if inner:
            lines.append("end")
    return lines


def read_program(text):
    """The program whose text this is."""
    if not isinstance(text, str):
        raise BadText(0, 0)
    return Reader(text.split("\n")).read_whole()


class Reader(LineReader):
    """The lines of a text of a program, and what is read of them."""

    def __init__(self, lines):
        LineReader.__init__(self, lines)
        self.functions = []
        self.many_deeds = 0

    def read_whole(self):
        """Reads the whole."""
        line = self.next_line(("program",))
        least = read_integer(line, 1, MOST_LEAST)
        rounds = read_integer(line, 0, MOST_ROUNDS)
        line.finish()
        while self.next_word() == "function" and len(self.functions) < MOST_FUNCTIONS:
            self.functions.append(self.read_function())
        inputs = read_names(self.next_line(("inputs",)), MOST_NAMES)
        deeds = self.read_deeds(1)
        if self.number < len(self.lines):
            raise BadText(self.number, 0)
        return Program(least, rounds, self.functions, inputs, deeds)

    def read_function(self):
        """Reads a function and its results."""
        line = self.next_line(("function",))
        name = line.now()
        if not is_name(name) or name in [function.name for function in self.functions]:
            line.refuse()
        line.step()
        parameters = read_names(line, MOST_NAMES)
        results = [self.read_result(parameters)]
        while self.next_word() == "result" and len(results) < MOST_RESULTS:
            results.append(self.read_result(parameters))
        return Function(name, parameters, results)

    def read_result(self, parameters):
        """Reads a result of a function with these parameters."""
        line = self.next_line(("result",))
        ground = Ground(MOST_LEVELS, False, parameters, self.functions)
        term = read_part(line, "word", ground)
        _finish(line, [term])
        return term

    def read_deeds(self, depth):
        """Reads the deeds up to a line that begins no deed."""
        made = []
        while self.next_word() in FORMS:
            if depth > MOST_DEPTH or self.many_deeds == MOST_DEEDS:
                raise BadText(self.number, 0)
            self.many_deeds += 1
            made.append(self.read_deed(depth))
        return made

    def read_deed(self, depth):
        """Reads a deed with the deeds within it."""
        word = self.next_word()
        line = self.next_line((word,))
        made = [word]
        ground = Ground(MOST_LEVELS, False, None, self.functions)
        for kind in FORMS[word]:
            if kind == "name":
                made.append(read_name(line))
            elif kind != "deeds":
                made.append(read_part(line, kind, ground))
        _finish(line, [one for one in made if not isinstance(one, str)])
        if "deeds" in FORMS[word]:
            made.extend(self.read_blocks(word, depth + 1))
        return made

    def read_blocks(self, word, depth):
        """Reads the deeds within a when or a while, and the line that ends it."""
        made = [self.read_deeds(depth)]
        if word == "when":
            made.append(self.read_others(depth))
        self.next_line(("end",)).finish()
        return made

    def read_others(self, depth):
        """Reads the deeds behind the line else, if it stands here."""
        if self.next_word() != "else":
            return []
        self.next_line(("else",)).finish()
        made = self.read_deeds(depth)
        if not made:
            raise BadText(self.number, 0)
        return made


def _finish(line, terms):
    """Ends a line with these terms. Their size is looked at last, as only the whole line shows it."""
    line.finish()
    if not all([many_parts(term) <= MOST_SIZE for term in terms]):
        line.refuse_last()
