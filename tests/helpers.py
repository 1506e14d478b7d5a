"""What the tests share: checks of raised errors, plain ways to work things out, and drawn terms and programs."""

import itertools

from leastequal.errors import BadText
from leastequal.words import shape_of

LEAF_KINDS = {"number": "word", "name": "word", "flag": "truth", "true": "truth", "false": "truth"}


def number(n):
    return ("number", n)


def name(x):
    return ("name", x)


def flag(p):
    return ("flag", p)


TRUE, FALSE = ("true",), ("false",)
X, Y, Z = name("x"), name("y"), name("z")
P, Q = flag("p"), flag("q")

# Values of many kinds, none of which is a term, a list, a dict, an integer or a string.
STRANGE = [None, True, False, 1.5, object(), {1, 2}, b"x", range(3), int]


class Raises:
    """A mixin for test cases: that a call raises just this error, with just these fields."""

    def check(self, error, fields, action, *arguments, **more):
        with self.assertRaises(error) as caught:
            action(*arguments, **more)
        self.assertIs(type(caught.exception), error)
        self.assertEqual(vars(caught.exception), fields)
        for key, told in fields.items():
            self.assertIs(type(vars(caught.exception)[key]), type(told))

    def check_part(self, error, part, action, *arguments, **more):
        self.check(error, {"part": part}, action, *arguments, **more)

    def check_text(self, line, item, action, text):
        self.check(BadText, {"line": line, "item": item}, action, text)


def as_lists(value):
    """The same value with lists in the place of tuples."""
    return [as_lists(part) for part in value] if isinstance(value, (list, tuple)) else value


def has_no_list(value):
    """Whether no list stands in the tuples of a value."""
    if isinstance(value, (list, dict)):
        return False
    return all(has_no_list(part) for part in value) if isinstance(value, tuple) else True


def kind(term):
    """Whether a term is a word or a truth."""
    if term[0] in LEAF_KINDS:
        return LEAF_KINDS[term[0]]
    shape = shape_of(term[0])
    return "word" if shape is None else shape[0]


def parts(term):
    return () if term[0] in LEAF_KINDS else term[1:]


def subterms(term):
    """All parts of a term, the term too, as their places ascend."""
    return [term] + [deeper for part in parts(term) for deeper in subterms(part)]


def signed_worth(word, width):
    return word - 2 ** width if word >= 2 ** (width - 1) else word


def worth(term, width, told, memory, functions=(), rounds=0):
    """The value of a term, as the document tells it, part by part; told: by leaf."""
    label = term[0]
    if label == "number":
        return term[1] % 2 ** width
    if label in ("name", "flag"):
        return told[term]
    if label in ("true", "false"):
        return label == "true"
    values = [worth(part, width, told, memory, functions, rounds) for part in term[1:]]
    if label == "at":
        return memory.get(values[0], 0)
    if label.startswith(("call ", "loop ")):
        first, called, index = label.split(" ")
        if first == "call":
            return function_worths(called, values, width, memory, functions, rounds)[int(index)]
        state = values[1:]
        for _ in range(min(values[0], rounds)):
            state = function_worths(called, state, width, memory, functions, rounds)
        return state[int(index)]
    return label_worth(label, width, values)


def function_worths(called, values, width, memory, functions, rounds):
    function = [one for one in functions if one.name == called][0]
    told = {name(parameter): value for parameter, value in zip(function.parameters, values)}
    return [worth(result, width, told, memory, functions, rounds) for result in function.results]


def label_worth(label, width, values):
    """What a label makes, by the table of the document."""
    many = 2 ** width
    if label.startswith("shl "):
        return values[0] * 2 ** int(label[4:]) % many
    if label == "if":
        return values[1] if values[0] else values[2]
    if len(values) == 1:
        if label == "no":
            return not values[0]
        return -values[0] % many if label == "neg" else many - 1 - values[0]
    a, b = values
    if label in ("both", "either"):
        return bool(a and b) if label == "both" else bool(a or b)
    if label in ("and", "or", "xor"):
        need = {"and": (2,), "or": (1, 2), "xor": (1,)}[label]
        return sum(2 ** i for i in range(width) if a // 2 ** i % 2 + b // 2 ** i % 2 in need)
    if label == "less":
        return signed_worth(a, width) < signed_worth(b, width)
    made = {"add": (a + b) % many, "sub": (a - b) % many, "mul": a * b % many, "eq": a == b, "lt": a < b}
    return made[label]


def all_told(leaves, width):
    """Each way to tell words of a width and truths for some names and flags."""
    choices = [range(2 ** width) if leaf[0] == "name" else (False, True) for leaf in leaves]
    for values in itertools.product(*choices):
        yield dict(zip(leaves, values))


WORD_LABELS = ["add", "sub", "mul", "and", "or", "xor", "neg", "flip", "shl 1", "shl 2", "shl 31", "at", "if"]
TRUTH_LABELS = ["eq", "lt", "less", "both", "either", "no"]


class Draw:
    """Draws terms: rng, the leaves that may stand in them, and the labels."""

    def __init__(self, rng, leaves, labels):
        self.rng = rng
        self.leaves = {"word": [], "truth": []}
        self.labels = {"word": [], "truth": []}
        for leaf in leaves:
            self.leaves[LEAF_KINDS[leaf[0]]].append(leaf)
        for label in labels:
            self.labels[shape_of(label)[0]].append(label)

    def term(self, wanted, size):
        """A term of this kind with about so many leaves and labels."""
        labels = self.labels[wanted]
        if not labels or (size <= 1 and self.leaves[wanted]):
            return self.rng.choice(self.leaves[wanted])
        label = self.rng.choice(labels)
        kinds = shape_of(label)[1]
        share = (size - 1) // len(kinds)
        return (label, *[self.term(one, self.rng.randint(share // 2, share)) for one in kinds])


class DrawCalls(Draw):
    """Draws terms in which calls and loops of some functions stand, too."""

    def __init__(self, rng, leaves, labels, functions):
        Draw.__init__(self, rng, leaves, labels)
        self.calls = []
        for function in functions:
            many = len(function.parameters)
            for index in range(len(function.results)):
                self.calls.append((f"call {function.name} {index}", many))
                if many == len(function.results):
                    self.calls.append((f"loop {function.name} {index}", many + 1))

    def term(self, wanted, size):
        if wanted == "word" and size > 1 and self.calls and self.rng.random() < 0.25:
            label, many = self.rng.choice(self.calls)
            share = (size - 1) // max(1, many)
            return (label, *[self.term("word", self.rng.randint(share // 2, share)) for _ in range(many)])
        return Draw.term(self, wanted, size)
