"""A slow machine by the words of point [15], and drawn code, sensible or not."""

from helpers import label_worth
from leastequal.code import Code
from leastequal.words import shape_of

DEEDS = ("spend", "keep", "ask", "tell", "put", "unless", "go")


def is_call(label):
    return label.startswith(("call ", "loop "))


class Short(Exception):
    """No fuel is left."""


class SlowMachine:
    """A run of code, row by row."""

    def __init__(self, code, width, inputs, memory, replies, fuel):
        self.code, self.width, self.many = code, width, 2 ** width
        self.names = {row[1]: 0 for row in code.rows if row[0] in ("keep", "ask")}
        self.names.update({one: number % self.many for one, number in zip(code.inputs, inputs)})
        self.memory = {key: word % self.many for key, word in memory.items() if key in range(self.many)}
        self.replies, self.told, self.fuel, self.turns, self.worked = list(replies), [], fuel, 0, 0
        self.outcome = "done"
        try:
            self.run()
        except Short:
            self.outcome = "short"

    def parts(self):
        memory = tuple(sorted((key, word) for key, word in self.memory.items() if word))
        return (self.outcome, tuple(sorted(self.names.items())), memory, tuple(self.told), self.turns)

    def run(self):
        frame = {"registers": {}, "cells": {}, "lists": [], "names": self.names}
        at = 0
        while at < len(self.code.rows):
            row = self.code.rows[at]
            at += 1
            if row[0] not in DEEDS:
                self.plain(row, frame)
                continue
            self.worked += 1
            held = [frame["registers"].get(one, 0) for one in row[1:]]
            if row[0] == "spend":
                if self.turns == self.fuel:
                    raise Short()
                self.turns += 1
            elif row[0] == "keep":
                self.names[row[1]] = held[1]
            elif row[0] == "ask":
                self.names[row[1]] = self.replies.pop(0) % self.many if self.replies else 0
            elif row[0] == "tell":
                self.told.append(held[0])
            elif row[0] == "put":
                self.memory[held[0]] = held[1]
            elif row[0] == "unless":
                at = row[2] if held[0] == 0 else at
            else:
                at = row[1]

    def plain(self, row, frame):
        self.worked += 1
        registers, cells, lists = frame["registers"], frame["cells"], frame["lists"]
        label, *rest = row
        if label == "name":
            registers[rest[0]] = frame["names"].get(rest[1], 0)
        elif label == "number":
            registers[rest[0]] = rest[1] % self.many
        elif label in ("true", "false"):
            registers[rest[0]] = 1 if label == "true" else 0
        elif label == "open":
            lists.append([])
        elif label == "hand":
            if lists:
                lists[-1].append(registers.get(rest[0], 0))
        elif label == "store":
            cells[rest[0]] = registers.get(rest[1], 0)
        elif label == "load":
            registers[rest[0]] = cells.get(rest[1], 0)
        elif is_call(label):
            registers[rest[0]] = self.called(label, lists.pop() if lists else [])
        else:
            registers[rest[0]] = self.label(label, [registers.get(one, 0) for one in rest[1:]])

    def label(self, label, words):
        if label == "at":
            return self.memory.get(words[0], 0)
        makes, kinds = shape_of(label)
        values = [word != 0 if kind == "truth" else word for word, kind in zip(words, kinds)]
        made = label_worth(label, self.width, values)
        return int(made)

    def called(self, label, words):
        first, called, number = label.split(" ")
        _, parameters, blocks = [function for function in self.code.functions if function[0] == called][0]
        if first == "call":
            return self.block(blocks[int(number)], parameters, words)
        count = min(words[0] if words else 0, self.code.rounds)
        state = (words[1:] + [0] * len(parameters))[:len(parameters)]
        for _ in range(count):
            state = [self.block(block, parameters, state) for block in blocks]
        return state[int(number)]

    def block(self, rows, parameters, words):
        names = {one: words[index] if index < len(words) else 0 for index, one in enumerate(parameters)}
        frame = {"registers": {}, "cells": {}, "lists": [], "names": names}
        for row in rows:
            self.plain(row, frame)
        return frame["registers"].get(0, 0)


LABELS = ["add", "sub", "mul", "and", "or", "xor", "neg", "flip", "shl 1", "shl 31", "at", "if", "eq", "lt", "less", "both", "either", "no"]


def drawn_plain(rng, registers, functions):
    """A plain row that calls and loops these functions."""
    one = rng.randrange(registers)
    bend = rng.random()
    if bend < 0.15:
        return ("name", one, rng.choice(["a", "b", "c", "x", "zz"]))
    if bend < 0.25:
        return ("number", one, rng.choice([0, 1, 2, 3, -1, 5, 2147483647, -2147483647]))
    if bend < 0.3:
        return (rng.choice(["true", "false"]), one)
    if bend < 0.38:
        return ("open",)
    if bend < 0.53:
        return ("hand", one)
    if bend < 0.58:
        return ("store", rng.choice([0, 1, 999]), one)
    if bend < 0.63:
        return ("load", one, rng.choice([0, 1, 999, 5]))
    if bend < 0.73 and functions:
        name, parameters, blocks = rng.choice(functions)
        first = "loop" if len(blocks) == len(parameters) and rng.random() < 0.6 else "call"
        return (f"{first} {name} {rng.randrange(len(blocks))}", one)
    label = rng.choice(LABELS)
    return (label, one, *[rng.randrange(registers) for _ in shape_of(label)[1]])


def drawn_functions(rng, registers):
    functions = []
    for name in ["f", "g", "true1", "loop"][:rng.randint(0, 4)]:
        parameters = rng.sample(["a", "b", "c", "x"], rng.randint(0, 3))
        many = len(parameters) if parameters and rng.random() < 0.6 else rng.randint(1, 3)
        blocks = [[drawn_plain(rng, registers, functions) for _ in range(rng.randint(0, 7))] for _ in range(many)]
        functions.append((name, parameters, blocks))
    return functions


def drawn_code(rng):
    """Lawful code, sensible or not."""
    registers = rng.choice([3, 4, 16])
    functions = drawn_functions(rng, registers)
    many = rng.randint(0, 40)
    kinds = [rng.choice(["plain"] * 6 + ["spend", "keep", "ask", "tell", "put", "unless", "go"]) for _ in range(many)]
    spends = [index for index, kind in enumerate(kinds) if kind == "spend"]
    rows = []
    for index, kind in enumerate(kinds):
        one = rng.randrange(registers)
        back = [spend for spend in spends if spend < index]
        lead = rng.choice(back) if back and rng.random() < 0.5 else rng.randint(index + 1, many)
        made = {
            "plain": drawn_plain(rng, registers, functions), "spend": ("spend",), "keep": ("keep", rng.choice("abxy"), one), "ask": ("ask", rng.choice("abxy")),
            "tell": ("tell", one), "put": ("put", one, rng.randrange(registers)), "unless": ("unless", one, lead), "go": ("go", lead),
        }
        rows.append(made[kind])
    inputs = rng.sample(["a", "b", "c"], rng.randint(0, 3))
    return Code(rng.choice([1, 1, 2, 8]), rng.choice([0, 1, 3, 1000]), registers, inputs, functions, rows)
