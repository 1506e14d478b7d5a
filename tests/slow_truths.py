"""Pieces, standings and papers as the document tells them, worked out slowly, bit by bit."""

import itertools

from helpers import all_told, kind, name, parts, subterms, worth


def ended(term):
    """All parts of a term, the term too, as they end."""
    return [deeper for part in parts(term) for deeper in ended(part)] + [term]


class Truth:
    """A plain truth term with its pieces, guesses and standings."""

    def __init__(self, truth, least):
        self.truth, self.least = truth, least
        self.reads = []
        for part in ended(truth):
            if part[0] == "at" and part not in self.reads:
                self.reads.append(part)
        self.addresses = [self.exchanged(read[1]) for read in self.reads]
        self.pieces = []
        for part in ended(truth):
            self.put(self.exchanged(part))
        self.pairs = []
        for j in range(len(self.reads)):
            for i in range(j):
                one = ("eq", self.addresses[i], self.addresses[j])
                other = ("eq", name(f"#{i}"), name(f"#{j}"))
                self.put(one)
                self.put(other)
                self.pairs.append((one, other))
        tests = [piece[1] for piece in self.pieces if piece[0] == "if"]
        self.guessed = [piece for piece in self.pieces if piece[0] == "flag" or piece in tests]
        self.guesses = sorted(itertools.product((False, True), repeat=len(self.guessed)))
        self.keepers = [piece for piece in self.pieces if self.weight_of_piece(piece) is not None]
        self.names = [piece for piece in self.pieces if piece[0] == "name"]
        numbers = [piece[1] for piece in self.pieces if piece[0] == "number"]
        self.depth = max([least] + [n.bit_length() if n >= 0 else (-n - 1).bit_length() for n in numbers])

    def put(self, piece):
        if piece not in self.pieces:
            self.pieces.append(piece)

    def exchanged(self, term):
        if term[0] == "at":
            return name(f"#{self.reads.index(term)}")
        return (term[0], *[self.exchanged(part) for part in parts(term)]) if parts(term) else term

    @staticmethod
    def factor(piece):
        """The number and the other part of a mul."""
        return (piece[2][1], piece[1]) if piece[2][0] == "number" else (piece[1][1], piece[2])

    def weight_of_piece(self, piece):
        """The weight of a piece that keeps something, None for any other one."""
        label = piece[0]
        if label == "mul":
            n = self.factor(piece)[0]
            return n if n > 0 else 1 - n
        if label.startswith("shl "):
            return 2 ** int(label[4:])
        return {"add": 2, "sub": 2, "neg": 2, "eq": 2, "lt": 2, "less": 4}.get(label)

    def weight(self):
        whole = 2 ** len(self.guessed)
        for piece in self.keepers:
            whole *= self.weight_of_piece(piece)
        return whole

    def bounds(self, piece):
        if piece[0] == "mul":
            n = self.factor(piece)[0]
            return (0, n - 1) if n > 0 else (n, 0)
        return 0, self.weight_of_piece(piece) - 1

    def start(self):
        return (0, *[1 if piece[0] == "eq" else 0 for piece in self.keepers])

    def behind(self, guess, standing, letter):
        """What a letter, a dict of bits, makes of a standing."""
        keeps = dict(zip(self.keepers, standing[1:]))
        tests = dict(zip(self.guessed, guess))
        bits = {}
        for piece in self.pieces:
            if kind(piece) == "word":
                bits[piece] = self.bit(piece, keeps, tests, bits, standing[0], letter)
        new = [self.keep_behind(piece, keeps[piece], bits) for piece in self.keepers]
        return (min(standing[0] + 1, self.depth), *new)

    def bit(self, piece, keeps, tests, bits, index, letter):
        label = piece[0]
        if label == "number":
            return (piece[1] >> index) & 1
        if label == "name":
            return letter[piece]
        if label == "if":
            return bits[piece[2]] if tests[piece[1]] else bits[piece[3]]
        if label == "mul":
            n, other = self.factor(piece)
            return (n * bits[other] + keeps[piece]) % 2
        if label.startswith("shl "):
            return keeps[piece] // 2 ** (int(label[4:]) - 1)
        values = [bits[part] for part in piece[1:]]
        if label in ("add", "sub", "neg"):
            return (sum(values) + keeps[piece]) % 2
        return {"and": min(values), "or": max(values), "xor": sum(values) % 2, "flip": 1 - values[0]}[label]

    def keep_behind(self, piece, c, bits):
        label = piece[0]
        if label == "mul":
            n, other = self.factor(piece)
            return (n * bits[other] + c) // 2
        a, b = bits[piece[1]], bits[piece[-1]]
        if label.startswith("shl "):
            return (2 * c + a) % 2 ** int(label[4:])
        if label == "add":
            return (a + b + c) // 2
        if label == "sub":
            return int(a - b - c < 0)
        if label == "neg":
            return int(a + c > 0)
        if label == "eq":
            return c if a == b else 0
        if label == "lt":
            return c if a == b else b
        r, s = (c // 2, c // 2) if a == b else (b, a)
        return 2 * r + s

    def truths(self, guess, standing):
        keeps = dict(zip(self.keepers, standing[1:]))
        told = {}
        for piece in self.pieces:
            if kind(piece) == "truth":
                inner = [told.get(part) for part in parts(piece)]
                if piece in keeps:
                    told[piece] = bool(keeps[piece] % 2 if piece[0] == "less" else keeps[piece])
                elif piece[0] == "flag":
                    told[piece] = guess[self.guessed.index(piece)]
                else:
                    told[piece] = {
                        "true": lambda: True, "false": lambda: False, "both": lambda: inner[0] and inner[1],
                        "either": lambda: inner[0] or inner[1], "no": lambda: not inner[0],
                    }[piece[0]]()
        return told

    def is_bad(self, guess, standing):
        if standing[0] < self.least:
            return False
        told = self.truths(guess, standing)
        if any(told[piece] != truth for piece, truth in zip(self.guessed, guess)):
            return False
        premise = all(not told[one] or told[other] for one, other in self.pairs)
        return premise and not told[self.exchanged(self.truth)]

    def letters(self):
        return [dict(zip(self.names, bits)) for bits in itertools.product((0, 1), repeat=len(self.names))]

    def reached(self, guess):
        """All standings that are reached, ascending."""
        found, waiting = {self.start()}, [self.start()]
        while waiting:
            standing = waiting.pop()
            for letter in self.letters():
                other = self.behind(guess, standing, letter)
                if other not in found:
                    found.add(other)
                    waiting.append(other)
        return tuple(sorted(found))

    def tables(self):
        return tuple((guess, self.reached(guess)) for guess in self.guesses)

    def holds(self):
        return not any(self.is_bad(guess, standing) for guess, some in self.tables() for standing in some)

    def is_right(self, tables):
        """Whether tables, a tuple of what the package takes for pairs of tuples, show that the truth holds."""
        if [guess for guess, _ in tables] != self.guesses:
            return False
        return all(self.is_closed(guess, some) for guess, some in tables)

    def is_closed(self, guess, some):
        if list(some) != sorted(set(some)) or self.start() not in some or not all(self.is_standing(one) for one in some):
            return False
        if any(self.is_bad(guess, one) for one in some):
            return False
        return all(self.behind(guess, one, letter) in some for one in some for letter in self.letters())

    def is_standing(self, one):
        bounds = [(0, self.depth), *[self.bounds(piece) for piece in self.keepers]]
        if len(one) != len(bounds) or any(type(part) is not int for part in one):
            return False
        return all(least <= part <= most for part, (least, most) in zip(one, bounds))


def leaves_of(term):
    return sorted({part for part in subterms(term) if part[0] in ("name", "flag")})


def memories(width, most):
    """All memories of a width, if they are not more than most; otherwise those of few words."""
    many = 2 ** width
    if many ** many <= most:
        for words in itertools.product(range(many), repeat=many):
            yield dict(enumerate(words))
        return
    yield {}


def fails_at(truth, width, most=300):
    """Whether a truth is False for any words, truths and memories of a width, as a trial of all of them tells."""
    has_reads = any(part[0] == "at" for part in subterms(truth))
    for memory in memories(width, most) if has_reads else [{}]:
        for told in all_told(leaves_of(truth), width):
            if not worth(truth, width, told, memory):
                return True
    return False


def is_false(truth, fails):
    """Whether a truth is False as a Fails tells."""
    told = {name(key): word for key, word in fails.names}
    told.update({("flag", key): flag for key, flag in fails.flags})
    return worth(truth, fails.width, told, dict(fails.memory)) is False


def memory_is_read(truth, fails):
    """Whether the memory of a Fails has words just at addresses that reads of the truth have there."""
    told = {name(key): word for key, word in fails.names}
    told.update({("flag", key): flag for key, flag in fails.flags})
    memory = dict(fails.memory)
    reads = {worth(part[1], fails.width, told, memory) for part in subterms(truth) if part[0] == "at"}
    return set(memory) <= reads
